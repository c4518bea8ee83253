/- norm's term: the start and the end of its loop. -/
import Derived.Test.YtmcgocbkjdacaaaDoorNT0
import Derived.Test.YtmcgocbkjdacaaaDoorNI2
namespace Go.Proofs.YtmcgocbkjdacaaaDoor
open Go.RowKit Go.BigM
set_option linter.unusedVariables false
set_option linter.unusedSimpArgs false
mutual
/-- What holds of all rows of terms and texts holds of a term's blocks. -/
theorem Et.At.sat {S P : Nat → Prop} {w : World} (hP : ∀ x c T fz, w.heap[x]? = some (.cells c T fz) → (T = 28 ∨ T = 9) → P x) : ∀ (e : Et) (cs : Array Value), Et.At S w e cs → Et.At (fun x => S x ∧ P x) w e cs
  | .mk _ _ ns l, cs, h => by
    rw [EAt_mk] at h ⊢
    obtain ⟨nv, av, e, hm, hl⟩ := h
    refine ⟨nv, av, e, ?_, ?_⟩
    · rcases hm with hm | ⟨g, o, cap, arr, fz, h1, h2, h3, h4⟩
      · exact .inl hm
      · exact .inr ⟨g, o, cap, arr, fz, h1, ⟨h2, hP _ _ _ _ h3 (.inr rfl)⟩, h3, h4⟩
    · rcases hl with hl | ⟨g, o, cap, arr, fz, h1, h2, h3, h4⟩
      · exact .inl hl
      · exact .inr ⟨g, o, cap, arr, fz, h1, ⟨h2, hP _ _ _ _ h3 (.inl rfl)⟩, h3, Ets.At.sat hP l arr o h4.1, h4.2⟩
theorem Ets.At.sat {S P : Nat → Prop} {w : World} (hP : ∀ x c T fz, w.heap[x]? = some (.cells c T fz) → (T = 28 ∨ T = 9) → P x) : ∀ (l : List Et) (arr : Array Value) (o : Nat), Ets.At S w l arr o → Ets.At (fun x => S x ∧ P x) w l arr o
  | [], _, _, _ => by unfold Ets.At; trivial
  | d :: l, arr, o, h => by
    unfold Ets.At at h ⊢
    obtain ⟨⟨cs, hc, hd⟩, hr⟩ := h
    exact ⟨⟨cs, hc, Et.At.sat hP d cs hd⟩, Ets.At.sat hP l arr (o + 4) hr⟩
end
theorem Nk.ne {w : World} {g n : Nat} (h : Nk w g n) : ∀ x c T fz, w.heap[x]? = some (.cells c T fz) → (T = 28 ∨ T = 9) → x ≠ g := by
  intro x c T fz hx hT e
  subst e
  unfold Nk at h
  rw [h] at hx
  injection hx with hx
  injection hx with _ h2 _
  rcases hT with rfl | rfl
  · exact absurd h2 (by decide)
  · exact absurd h2 (by decide)
/-- The new struct is laid. -/
theorem nt_start {W1 Y : World} {ge : Nat} {k : Int} {t : ByteArray} {nv : Value} {ns : List ByteArray} (hb : Below W1.heap.size W1 Y) (hz : Y.heap[ge]? = some (.cells Z4 28 (0, 0))) (hge : W1.heap.size ≤ ge) (hn : OwnN W1.heap.size Y nv ns) :
    Below W1.heap.size W1 (Y.setRow ge #[.int .i64 k, .string t, nv, .slice none 0 0]) ∧ OwnN W1.heap.size (Y.setRow ge #[.int .i64 k, .string t, nv, .slice none 0 0]) nv ns ∧
      EB (Y.setRow ge #[.int .i64 k, .string t, nv, .slice none 0 0]) ge k t nv (.slice none 0 0) ∧ ge < (Y.setRow ge #[.int .i64 k, .string t, nv, .slice none 0 0]).heap.size ∧ (∀ x, nv.ownBlock = some x → x ≠ ge) := by
  have hlt : ge < Y.heap.size := (Array.getElem?_eq_some_iff.1 hz).1
  have hne : ∀ x, nv.ownBlock = some x → x ≠ ge := by
    intro x hx e
    subst e
    rcases hn.2 with ⟨rfl, _⟩ | ⟨g, cap, cur, rfl, hB, hg, _⟩
    · cases hx
    · have hx2 : some g = some x := hx
      injection hx2 with hx2
      subst hx2
      rw [hz] at hg
      injection hg with hg
      injection hg with _ h2 _
      exact absurd h2 (by decide)
  have he : (Y.setRow ge #[.int .i64 k, .string t, nv, .slice none 0 0]).heap[ge]? = some (.cells #[.int .i64 k, .string t, nv, .slice none 0 0] 28 (0, 0)) := setRow_heap Y _ _ _ 28 _ hz
  refine ⟨hb.trans ⟨rfl, rfl, rfl, by simp, fun x hx => setRow_other Y ge x _ (by omega)⟩, ?_, he, by simpa using hlt, hne⟩
  refine ⟨hn.1, ?_⟩
  rcases hn.2 with h1 | ⟨g, cap, cur, e1, hB, hg, r⟩
  · exact .inl h1
  · exact .inr ⟨g, cap, cur, e1, hB, by rw [setRow_other Y ge g _ (hne g (by rw [e1]; rfl))]; exact hg, r⟩
theorem nt_zero {W0 : World} {g ge : Nat} {k : Int} {t : ByteArray} {nv : Value} {a : List Et} {n : Nat} (he : EB W0 ge k t nv (.slice none 0 0)) (hn : Nk W0 g n) : TInv W0 g ge k t nv a n (.slice none 0 0) (.int .i64 0) W0 := by
  refine ⟨0, .slice none 0 0, Nat.zero_le _, rfl, ?_, ?_, fun x hx => by simp [Value.ownBlock] at hx, he, ?_, But2.refl _ _ _ _⟩
  · rw [List.take_zero, nrms_nil]; exact OwnQ.nil _ _ _
  · rw [List.take_zero, nrms_nil]; exact OwnV.nil _ _ _
  · rw [List.take_zero, nrms_nil]; exact hn
theorem thicks_take (k : Int) (t : ByteArray) (a : List Et) (j : Nat) (h : j < a.length) : Et.thicks k t 0 (a.take j) + a[j].thick ≤ Et.thicks k t 0 a := by
  have h1 : a = a.take j ++ (a[j] :: a.drop (j + 1)) := by rw [List.getElem_cons_drop]; exact (List.take_append_drop j a).symm
  have h2 : ∀ (l m : List Et) (i : Nat), Et.thicks k t i (l ++ m) = Et.thicks k t i l + Et.thicks k t (i + l.length) m := by
    intro l
    induction l with
    | nil => intro m i; simp [thicks_nil]
    | cons x l ih => intro m i; rw [List.cons_append, thicks_cons, thicks_cons, ih]; simp only [List.length_cons]; rw [show i + 1 + l.length = i + (l.length + 1) by omega]; omega
  conv => rhs; rw [h1, h2, thicks_cons]
  omega
theorem wpList_app {ops : Array Oper} {rest : List Oper} {o : Oper} {a : Act} {w : World} {Q : Exit → Act → World → Prop} (hgd : o.guard = none) (s x : Operand)
    (ho : o.op = .call { callee := .builtin .append, args := #[s, x], argTypes := #[26, 26] }) (B : Nat) (v : Value) (n : Nat) (xs : List Value) (hs : a.eval s = v) (hown : w.ownsRow B 28 4 v n xs)
    (g0 c : Nat) (hx : a.eval x = .slice (some ⟨g0, 0, none⟩) 1 c) (news : List Value) (hl : news.length = 4)
    (hnews : ∀ j u, news[j]? = some u → w.cell? ⟨g0, j, none⟩ = some u) (h1 : ∀ u ∈ news, u.oneCell' = true) (hn : n + 1 ≤ 1000000000) (hB : B ≤ w.heap.size)
    (h : ∀ v' w', w'.ownsRow B 28 4 v' (n + 1) (xs ++ news) → w.grownBy w' v.ownBlock → (v'.ownBlock = v.ownBlock ∨ v'.ownBlock = some w.heap.size) → wpList Tryd.prog ops Q rest (a.put o.dst v') w') : wpList Tryd.prog ops Q (o :: rest) a w :=
  wpList_plain hgd fun _ hK => wp_app s x ho B v n xs hs hown g0 c hx news hl hnews h1 hn hB (fun v' w' a1 a2 a3 => hK _ _ (h v' w' a1 a2 a3))
/-- The end: the term is laid in the result's block. -/
theorem nt_end {w W1 W0 wr w5 : World} {g ge gr n : Nat} {e : Et} (hb1 : Below w.heap.size w W1) (hb0 : Below W1.heap.size W1 W0) (hbut : But2 W0.heap.size g ge W0 wr) (hgr : w.heap.size ≤ gr) (hgr1 : gr < W1.heap.size) (hge : W1.heap.size ≤ ge) (hgw : g < w.heap.size)
    (hnk : Nk wr g (e.nrm n).1) {cs : Array Value} (hat : Et.At (fun x => W1.heap.size ≤ x ∨ wr.heap.size ≤ x) w5 (e.nrm n).2 cs) (hb5 : Below wr.heap.size wr w5) :
    RetNrm e n g w (.returned (.agg cs)) (w5.setRow gr cs) := by
  have h0 := hb0.size
  have h1 := hb1.size
  have h2 := hbut.size
  have hnk5 := hnk.below hb5
  refine ⟨cs, rfl, ?_, ?_, ?_⟩
  · refine Et.At.mono (fun x hx => ?_) _ _ (Et.At.keeps (S := fun x => W1.heap.size ≤ x ∨ wr.heap.size ≤ x) (fun x c T fz hx hxx _ => ⟨fz, by rw [setRow_other w5 gr x _ (by rcases hx with hx | hx <;> omega)]; exact hxx⟩) _ _ hat)
    rcases hx with hx | hx
    · have : W1.heap.size ≤ x := hx; omega
    · have : wr.heap.size ≤ x := hx; omega
  · unfold Nk
    rw [setRow_other w5 gr g _ (by omega)]; exact hnk5
  · have h3 : But w.heap.size g w wr := ((But.of (hb1.trans (hb0.mono h1))) : But w.heap.size g w W0).trans (hbut.to (by omega) (by omega))
    exact (h3.trans (But.of (hb5.mono (by omega)))).setRow gr cs hgr
theorem row_cellsT (w : World) (T : TypeId) (cs : List Value) : ∀ (i : Nat) u, cs[i]? = some u → (w.alloc (.cells cs.toArray T)).cell? ⟨w.heap.size, i, none⟩ = some u := by
  intro i u hu
  rw [Lib.cell_of_heap (alloc_at w _)]
  simpa using hu
theorem vals_len (k : Int) (t : ByteArray) : ∀ (l : List Et) (n i : Nat), (Et.nrms k t n i l).2.2.length ≤ l.length
  | [], n, i => by rw [nrms_nil]; exact Nat.le_refl _
  | x :: l, n, i => by
    rw [nrms_cons]
    split
    · have := vals_len k t l ((x.nrm n).1 + 1) (i + 1); simp only [List.length_cons]; omega
    · have := vals_len k t l (x.nrm n).1 (i + 1); simp only [List.length_cons]; omega
end Go.Proofs.YtmcgocbkjdacaaaDoor
