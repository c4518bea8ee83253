/- Names behind names: rows of texts, apart; a loop's round. -/
import Derived.Test.YtcalbcllmmoldaaMK3
import Derived.Deep.AppendSrc
namespace Go.Proofs.Ytcalbcllmmoldaa
open Go.RowKit Go.BigM
set_option linter.unusedVariables false
set_option linter.unusedSimpArgs false
theorem run_appS (w : World) (B ty : Nat) (v : Value) (n : Nat) (xs : List Value) (hown : w.ownsRow B 9 1 v n xs) (g0 c : Nat) (news : List Value) (hl : news.length = 1)
    (hnews : ∀ j u, news[j]? = some u → w.cell? ⟨g0, j, none⟩ = some u) (h1 : ∀ u ∈ news, u.oneCell' = true) (hn : n + 1 ≤ 1000000000) (hB : B ≤ w.heap.size) :
    ∃ v' w', (Builtin.append_ #[25, 25] ty #[v, .slice (some ⟨g0, 0, none⟩) 1 c]).run Try.prog w = .ok v' w' ∧ w'.ownsRow B 9 1 v' (n + 1) (xs ++ news) ∧ w.grownBy w' v.ownBlock ∧ (v'.ownBlock = v.ownBlock ∨ v'.ownBlock = some w.heap.size) := by
  obtain ⟨i, hi, hz, hs, hb⟩ := info_parts infoS
  have hnews' : ∀ j u, news[j]? = some u → w.cell? ((⟨g0, 0, none⟩ : Addr).add j) = some u := by
    intro j u hu
    have e : (⟨g0, 0, none⟩ : Addr).add j = ⟨g0, j, none⟩ := by unfold Addr.add; split <;> simp_all
    rw [e]; exact hnews j u hu
  have hl1 : news.length = 1 * 1 := by omega
  obtain ⟨v', w', hr, h2, h3, _⟩ := run_append_own (P := Try.prog) w B 25 ty 9 i (.string ⟨#[]⟩) 1 16 Try.underlying25 hi hz hs hb rfl (by decide) v n xs hown ⟨g0, 0, none⟩ 1 c news hl1 hnews' h1 (by unfold maxLen; omega) (by omega) hB
  refine ⟨v', w', hr, h2, h3, ?_⟩
  have hl2 : news.length = 1 * i.size := by rw [hs]; exact hl1
  rcases hown.2 with ⟨rfl, rfl⟩ | ⟨g, cap, cur, rfl, hbg, hg, hnc, hcm, hcs, htake⟩
  · have hr2 := run_append_nil (P := Try.prog) w 25 ty 9 i (.string ⟨#[]⟩) Try.underlying25 hi hz ⟨g0, 0, none⟩ 1 c news hl2 hnews' (by decide) (by decide) (by rw [hb]; decide)
    rw [hr] at hr2
    injection hr2 with e1 e2
    right; rw [e1]; rfl
  · by_cases hroom : n + 1 ≤ cap
    · have hfit : n * i.size + news.length ≤ cur.size := by rw [hs, hl, hcs]; omega
      have hr2 := run_append_room (P := Try.prog) w 25 ty 9 i Try.underlying25 hi g n cap cur hg ⟨g0, 0, none⟩ 1 c news hl2 hnews' h1 hroom hfit
      rw [hr] at hr2
      injection hr2 with e1 e2
      left; rw [e1]; rfl
    · have hlo : xs.length = n * i.size := by rw [hs]; exact hown.1
      have hr2 := run_append_grow (P := Try.prog) w 25 ty 9 i (.string ⟨#[]⟩) Try.underlying25 hi hz ⟨g, 0, none⟩ n cap xs hlo (hown.cells (g := g) rfl) ⟨g0, 0, none⟩ 1 c news hl2 hnews' (by omega) (by omega) (growslice_fits (by omega) (by rw [hb]; omega))
      rw [hr] at hr2
      injection hr2 with e1 e2
      right; rw [e1]; rfl
theorem wp_appN2 {o : Oper} {a : Act} {w : World} {K : Act → World → Prop} {Q : Exit → Act → World → Prop} (s x : Operand)
    (ho : o.op = .call { callee := .builtin .append, args := #[s, x], argTypes := #[25, 25] }) (B : Nat) (v : Value) (L : List ByteArray) (hs : a.eval s = v) (hown : OwnN B w v L)
    (g0 : Nat) (hx : a.eval x = .slice (some ⟨g0, 0, none⟩) 1 1) (d : ByteArray) (hc : w.cell? ⟨g0, 0, none⟩ = some (.string d)) (hb : L.length ≤ 100000) (hB : B ≤ w.heap.size)
    (h : ∀ v' w', OwnN B w' v' (L ++ [d]) → w.grownBy w' v.ownBlock → (v'.ownBlock = v.ownBlock ∨ v'.ownBlock = some w.heap.size) → K (a.put o.dst v') w') : o.wp Try.prog a w K Q := by
  obtain ⟨v', w', hr, h2, h3, h4⟩ := run_appS w B o.type v L.length _ hown g0 1 [.string d] rfl (fun j u hu => by
    have hj : j = 0 := by
      rcases j with _ | j
      · rfl
      · simp at hu
    subst hj
    simp at hu
    subst hu
    exact hc) (fun u hu => by simp at hu; subst hu; rfl) (by omega) hB
  unfold Oper.wp execOp
  simp only [ho, resolve, invoke, builtin, Sem.run_bind, Sem.run_pure, Result.andThen_ok, List.map_toArray, List.map_cons, List.map_nil, hs, hx, hr]
  refine h v' w' ?_ h3 h4
  unfold OwnN
  rw [List.map_append, List.length_append]; exact h2
/-- A row of names copied behind an empty literal. -/
theorem wp_appNs {o : Oper} {a : Act} {w : World} {K : Act → World → Prop} {Q : Exit → Act → World → Prop} (s x : Operand)
    (ho : o.op = .call { callee := .builtin .append, args := #[s, x], argTypes := #[25, 25] }) (B g c : Nat) (hs : a.eval s = .slice (some ⟨g, 0, none⟩) 0 c) (hown : OwnN B w (.slice (some ⟨g, 0, none⟩) 0 c) [])
    {S : Nat → Prop} (u : Value) (R : List ByteArray) (hx : a.eval x = u) (hu : NAt S w u R) (hb : R.length ≤ 100000) (hB : B ≤ w.heap.size)
    (h : ∀ v' w', OwnN B w' v' R → w.grownBy w' (some g) → K (a.put o.dst v') w') : o.wp Try.prog a w K Q := by
  obtain ⟨i, hi, hz, hsz, hby⟩ := info_parts infoS
  rcases hu with ⟨rfl, rfl⟩ | ⟨g1, o1, cap, arr, fz, rfl, h1, h2, h3, h4⟩
  · have hr := run_append_room_src (P := Try.prog) w 25 25 o.type 9 i Try.underlying25 hi g 0 0 c (.slice none 0 0) 0 [] (Src.ofNil w Try.underlying25 0) (by omega) (fun j hj => by simp at hj) (fun j hj => by simp at hj)
    unfold Oper.wp execOp
    simp only [ho, resolve, invoke, builtin, Sem.run_bind, Sem.run_pure, Result.andThen_ok, List.map_toArray, List.map_cons, List.map_nil, hs, hx, List.length_nil, hr]
    exact h _ _ hown ⟨rfl, rfl, rfl, Nat.le_refl _, fun _ _ _ => rfl⟩
  · refine wp_append_own w s x 25 ho B 9 i (.string ⟨#[]⟩) 1 16 Try.underlying25 hi hz hsz hby rfl (by decide) _ 0 _ hs hown ⟨g1, o1, none⟩ R.length cap (R.map Value.string) hx (by simp) (fun j t hj => ?_) (fun t ht => ?_) (by unfold maxLen; omega) (by omega) hB ?_
    · have hl : j < R.length := by
        rcases Nat.lt_or_ge j R.length with h | h
        · exact h
        · rw [List.getElem?_eq_none (by simpa using h)] at hj; cases hj
      rw [List.getElem?_map, List.getElem?_eq_getElem hl] at hj
      simp only [Option.map_some, Option.some.injEq] at hj
      subst hj
      have e2 : (⟨g1, o1, none⟩ : Addr).add j = ⟨g1, o1 + j, none⟩ := by unfold Addr.add; split <;> simp_all
      rw [e2, Lib.cell_of_heap h2]; exact h3 j hl
    · obtain ⟨_, _, rfl⟩ := List.mem_map.1 ht; rfl
    · intro v' w' h5 h6 _
      refine h v' w' ?_ h6
      unfold OwnN
      simpa using h5
theorem OwnN.lit (B : Nat) (w : World) (h : B ≤ w.heap.size) : OwnN B (w.alloc (.cells #[] 9)) (.slice (some ⟨w.heap.size, 0, none⟩) 0 0) [] := by
  refine ⟨by simp, .inr ⟨w.heap.size, 0, #[], rfl, h, alloc_at w _, ?_⟩⟩
  simp [maxLen]
theorem OwnN.but {B g : Nat} {w w' : World} {v : Value} {ns : List ByteArray} (h : OwnN B w v ns) (hb : But w.heap.size g w w') (hg : g < B) : OwnN B w' v ns := by
  refine ⟨h.1, ?_⟩
  rcases h.2 with h | ⟨g1, cap, cur, e1, hB, hh, r⟩
  · exact .inl h
  · exact .inr ⟨g1, cap, cur, e1, hB, by rw [hb.block _ (Array.getElem?_eq_some_iff.1 hh).1 (by omega)]; exact hh, r⟩
theorem OwnN.lt {B : Nat} {w : World} {v : Value} {ns : List ByteArray} (h : OwnN B w v ns) {k : Nat} (hk : v.ownBlock = some k) : B ≤ k ∧ k < w.heap.size := World.ownsRow.lt h k hk
theorem OwnN.grown {B : Nat} {w w' : World} {v : Value} {ns : List ByteArray} {row : Option Nat} (h : OwnN B w v ns) (hg : w.grownBy w' row) (hr : ∀ k, v.ownBlock = some k → row ≠ some k) : OwnN B w' v ns := by
  refine ⟨h.1, ?_⟩
  rcases h.2 with h | ⟨g1, cap, cur, rfl, hB, hh, r⟩
  · exact .inl h
  · exact .inr ⟨g1, cap, cur, rfl, hB, by rw [hg.block _ (Array.getElem?_eq_some_iff.1 hh).1 (fun e => hr g1 rfl e.symm)]; exact hh, r⟩
/-- The loop: so many names are made, of the term and of what its part sees. -/
def LN (W0 : World) (g ge q m : Nat) (sc : List ByteArray) (kk : Int) (inv iv : Value) (wr : World) : Prop :=
  ∃ (i : Nat) (nv : Value), i ≤ q ∧ iv = .int .i64 (i : Int) ∧ EB wr ge kk ⟨#[]⟩ nv (.slice none 0 0) ∧ OwnN W0.heap.size wr nv (nms m (m + i)) ∧ OwnN W0.heap.size wr inv (sc ++ nms m (m + i)) ∧
    (∀ k, nv.ownBlock = some k → inv.ownBlock ≠ some k) ∧ Mk wr g (m + i) ∧ But2 W0.heap.size g ge W0 wr
/-- What a round owes, from the name's call on. -/
theorem LN.step {W0 : World} {g ge q m : Nat} {sc : List ByteArray} {kk : Int} {inv nv : Value} {wr : World} {i : Nat}
    (hiq : i < q) (heb : EB wr ge kk ⟨#[]⟩ nv (.slice none 0 0)) (hn : OwnN W0.heap.size wr nv (nms m (m + i))) (hin : OwnN W0.heap.size wr inv (sc ++ nms m (m + i)))
    (hap : ∀ k, nv.ownBlock = some k → inv.ownBlock ≠ some k) (hbut : But2 W0.heap.size g ge W0 wr) (hgb : g < W0.heap.size) (hgeb : ge < W0.heap.size) (hne : ge ≠ g)
    {w6 : World} (hmk6 : Mk w6 g (m + i + 1)) (hb6 : But wr.heap.size g wr w6) (s : ByteArray) (hs : s = nm (m + i + 1)) :
    w6.cell? ⟨ge, 2, none⟩ = some nv ∧ OwnN W0.heap.size (w6.alloc (.cells #[.string s] 9)) nv (nms m (m + i)) ∧ (w6.alloc (.cells #[.string s] 9)).cell? ⟨w6.heap.size, 0, none⟩ = some (.string s) ∧ W0.heap.size ≤ (w6.alloc (.cells #[.string s] 9)).heap.size ∧
      ∀ v' w8, OwnN W0.heap.size w8 v' (nms m (m + i) ++ [s]) → (w6.alloc (.cells #[.string s] 9)).grownBy w8 nv.ownBlock → (v'.ownBlock = nv.ownBlock ∨ v'.ownBlock = some (w6.alloc (.cells #[.string s] 9)).heap.size) →
        OwnN W0.heap.size (w8.alloc (.cells #[.string s] 9)) inv (sc ++ nms m (m + i)) ∧ (w8.alloc (.cells #[.string s] 9)).cell? ⟨w8.heap.size, 0, none⟩ = some (.string s) ∧ W0.heap.size ≤ (w8.alloc (.cells #[.string s] 9)).heap.size ∧
        ∀ v2 w10, OwnN W0.heap.size w10 v2 (sc ++ nms m (m + i) ++ [s]) → (w8.alloc (.cells #[.string s] 9)).grownBy w10 inv.ownBlock → (v2.ownBlock = inv.ownBlock ∨ v2.ownBlock = some (w8.alloc (.cells #[.string s] 9)).heap.size) →
          w10.cell? ⟨ge, 2, none⟩ = some nv ∧ w10.frozen? ⟨ge, 2, none⟩ = false ∧ LN W0 g ge q m sc kk v2 (.int .i64 ((i : Int) + 1)) (w10.setCell ⟨ge, 2, none⟩ v') := by
  have hs0 := hbut.size
  have hgw : ge < wr.heap.size := by omega
  have h6 := hb6.size
  have hn6 := hn.but hb6 hgb
  have hi6 := hin.but hb6 hgb
  have ha6 : Below w6.heap.size w6 (w6.alloc (.cells #[.string s] 9)) := (Below.refl _ _).alloc (Nat.le_refl _) _
  have z7 : (w6.alloc (.cells #[.string s] 9)).heap.size = w6.heap.size + 1 := by simp
  refine ⟨(hb6.cell (p := ⟨ge, 2, none⟩) hgw hne).trans (EB.cell _ _ _ _ _ _ heb).2.2.1, hn6.below ha6, by rw [Lib.cell_of_heap (alloc_at w6 _)]; rfl, by omega, fun v' w8 h8 hg8 hv8 => ?_⟩
  have hi8 : OwnN W0.heap.size w8 inv (sc ++ nms m (m + i)) := (hi6.below ha6).grown hg8 (fun k hk e => hap k e hk)
  have z8 := hg8.size
  have ha8 : Below w8.heap.size w8 (w8.alloc (.cells #[.string s] 9)) := (Below.refl _ _).alloc (Nat.le_refl _) _
  have z9 : (w8.alloc (.cells #[.string s] 9)).heap.size = w8.heap.size + 1 := by simp
  refine ⟨hi8.below ha8, by rw [Lib.cell_of_heap (alloc_at w8 _)]; rfl, by omega, fun v2 w10 h10 hg10 hv10 => ?_⟩
  have hb8 : But W0.heap.size g wr w8 := ((hb6.alloc h6 _).mono hs0).grown hg8 (by omega) (fun k hk => (hn.lt hk).1)
  have hb10 : But W0.heap.size g wr w10 := (hb8.alloc (by omega) _).grown hg10 (by omega) (fun k hk => (hin.lt hk).1)
  have heb10 : EB w10 ge kk ⟨#[]⟩ nv (.slice none 0 0) := by unfold EB; rw [hb10.block ge hgeb hne]; exact heb
  have hap1 : ∀ k, v'.ownBlock = some k → inv.ownBlock ≠ some k := by
    intro k hk e
    rcases hv8 with hv | hv
    · exact hap k (hv.symm.trans hk) e
    · rw [hv] at hk
      injection hk with hk
      have := (hin.lt e).2
      omega
  have h8' : OwnN W0.heap.size w10 v' (nms m (m + i) ++ [s]) := (h8.below ha8).grown hg10 (fun k hk e => hap1 k hk e)
  have hmk10 : Mk w10 g (m + i + 1) := by
    have a1 : Mk (w6.alloc (.cells #[.string s] 9)) g (m + i + 1) := hmk6.below ha6
    have a2 : Mk w8 g (m + i + 1) := by
      unfold Mk at a1 ⊢
      rw [hg8.block g (by have := Array.getElem?_eq_some_iff.1 a1; exact this.1) (fun e => by have := (hn.lt e.symm).1; omega)]; exact a1
    have a3 : Mk (w8.alloc (.cells #[.string s] 9)) g (m + i + 1) := a2.below ha8
    unfold Mk at a3 ⊢
    rw [hg10.block g (by have := Array.getElem?_eq_some_iff.1 a3; exact this.1) (fun e => by have := (hin.lt e.symm).1; omega)]; exact a3
  have e1 : nms m (m + i) ++ [s] = nms m (m + (i + 1)) := by rw [hs]; exact (nms_succ m (m + i) (by omega)).symm
  have e2 : sc ++ nms m (m + i) ++ [s] = sc ++ nms m (m + (i + 1)) := by rw [List.append_assoc, e1]
  rw [e1] at h8'
  rw [e2] at h10
  refine ⟨(EB.cell _ _ _ _ _ _ heb10).2.2.1, heb10.frozen 2, i + 1, v', by omega, by go_num, heb10.setN _, h8'.setCell (a := ⟨ge, 2, none⟩) hgeb _, h10.setCell (a := ⟨ge, 2, none⟩) hgeb _, ?_, ?_, hbut.trans ((But2.of hb10).setCell (p := ⟨ge, 2, none⟩) (.inr rfl) _)⟩
  · intro k hk e
    rcases hv10 with hv | hv
    · exact hap1 k hk (hv.symm.trans e)
    · rw [hv] at e
      injection e with e
      have := (h8.lt hk).2
      omega
  · unfold Mk; rw [heap_setCell_other w10 ⟨ge, 2, none⟩ g _ (by show g ≠ ge; omega)]; exact hmk10
end Go.Proofs.Ytcalbcllmmoldaa
