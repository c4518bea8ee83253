/- The document's reader: put: what holds in its loop. -/
import Derived.Test.YthhaegncnoekbaaYAD
namespace Go.Proofs.Ythhaegncnoekbaa
open Go.RowKit Go.BigM
set_option linter.unusedVariables false
set_option linter.unusedSimpArgs false
/-- What holds in put's loop: the datum d lies in the box N. -/
structure PI (D : Nat → Prop) (N g : Nat) (s : ByteArray) (p : Nat) (es : List En) (out : List Dt) (d : Dt) (cs : Array Value) (w wr : World) : Prop where
  rd : RdAt D N wr g s p es out
  dat : Dt.At (fun x => D x ∨ N + 1 ≤ x) wr d cs
  box : Boxed N cs wr
  low : Below g w wr
  size : N + 1 ≤ wr.heap.size
theorem PI.below {D : Nat → Prop} {N g : Nat} {s : ByteArray} {p : Nat} {es : List En} {out : List Dt} {d : Dt} {cs : Array Value} {w wr X : World} (h : PI D N g s p es out d cs w wr) (hgN : g < N) (hb : Below wr.heap.size wr X) : PI D N g s p es out d cs w X := by
  have hs := hb.size
  have h1 := h.size
  refine ⟨h.rd.keep (fun x _ hx => hb.block x (by omega)) hgN (by omega), Dt.At.keeps (Keeps.of_below hb) _ _ h.dat, ?_, h.low.trans (hb.mono (by omega)), by omega⟩
  have := h.box
  unfold Boxed at this ⊢
  rw [hb.block N (by omega)]; exact this
theorem PI.start {D : Nat → Prop} {g : Nat} {s : ByteArray} {p : Nat} {es : List En} {out : List Dt} {d : Dt} {cs : Array Value} {w : World} (h : RdAt D w.heap.size w g s p es out) (hg : g < w.heap.size) (hd : Dt.At D w d cs) : PI D w.heap.size g s p es out d cs w (w.alloc (.cells cs 29)) := by
  have hb : Below w.heap.size w (w.alloc (.cells cs 29)) := (Below.refl _ _).alloc (Nat.le_refl _) _
  refine ⟨h.keep (fun x _ hx => hb.block x hx) hg (by simp), ?_, alloc_at w _, hb.mono (by omega), by simp⟩
  exact Dt.At.mono (fun x h => .inl h) _ _ (Dt.At.keeps (Keeps.of_below hb) _ _ hd)
theorem rs3_of {w : World} {g p : Nat} {s : ByteArray} {a b : Value} {w' : World} (h : Rs3 w g s p a b) (e : w'.heap[g]? = w.heap[g]?) : Rs3 w' g s p a b := by
  unfold Rs3 at h ⊢; rw [e]; exact h
/-- What put leaves of one that is open, of what kind it may be. -/
theorem PI.top {D : Nat → Prop} {N g : Nat} {s : ByteArray} {p : Nat} {e : En} {r : List En} {out : List Dt} {d : Dt} {k : Int} {t : ByteArray} {mv lv : Value} {pl : Int} {w wr : World} (h : PI D N g s p (e :: r) out d #[.int .i64 k, .string t, mv, lv, .int .i64 pl] w wr) (hgN : g < N) (hws : w.heap.size = N) :
    ∃ og c lo ln lc, wr.cell? ⟨g, 2, none⟩ = some (.slice (some ⟨og, 0, none⟩) (r.length + 1) c) ∧ r.length + 1 ≤ c ∧ c ≤ maxLen ∧ og < wr.heap.size ∧
      (wr.cell? ⟨og, r.length * 3, none⟩ = some (.bool e.q) ∧ wr.cell? ⟨og, r.length * 3 + 1, none⟩ = some (.int .i64 e.pl) ∧ wr.cell? ⟨og, r.length * 3 + 2, none⟩ = some (.slice lo ln lc)) ∧
      ∀ X, Below wr.heap.size wr X → wr.heap.size < X.heap.size →
        (X.cell? ⟨g, 2, none⟩ = some (.slice (some ⟨og, 0, none⟩) (r.length + 1) c) ∧ X.frozen? ⟨g, 2, none⟩ = false ∧ Boxed N #[.int .i64 k, .string t, mv, lv, .int .i64 pl] X) ∧
        (e.q = true → (Below wr.heap.size wr (X.setCell ⟨g, 2, none⟩ (.slice (some ⟨og, 0, none⟩) r.length c)) ∨ True) ∧ Boxed N #[.int .i64 k, .string t, mv, lv, .int .i64 pl] (X.setCell ⟨g, 2, none⟩ (.slice (some ⟨og, 0, none⟩) r.length c)) ∧
          ∃ D2, PI D2 N g s p r out (e.add d).dt #[.int .i64 4, .string ⟨#[]⟩, .slice none 0 0, .slice (some ⟨X.heap.size, 0, none⟩) 2 2, .int .i64 e.pl] w
            (((X.setCell ⟨g, 2, none⟩ (.slice (some ⟨og, 0, none⟩) r.length c)).alloc (.cells #[.int .i64 3, .string ⟨#[113, 117, 111, 116, 101]⟩, .slice none 0 0, .slice none 0 0, .int .i64 e.pl, .int .i64 k, .string t, mv, lv, .int .i64 pl] 29)).setRow N #[.int .i64 4, .string ⟨#[]⟩, .slice none 0 0, .slice (some ⟨X.heap.size, 0, none⟩) 2 2, .int .i64 e.pl])) ∧
        (e.q = false → ln = e.ds.length ∧ ∃ xs, (X.alloc (.cells #[.int .i64 k, .string t, mv, lv, .int .i64 pl] 29)).ownsRow (g + 1) 29 5 (.slice lo ln lc) ln xs ∧ g + 1 ≤ (X.alloc (.cells #[.int .i64 k, .string t, mv, lv, .int .i64 pl] 29)).heap.size ∧
          ∀ v' w9, w9.ownsRow (g + 1) 29 5 v' (ln + 1) (xs ++ [.int .i64 k, .string t, mv, lv, .int .i64 pl]) → (X.alloc (.cells #[.int .i64 k, .string t, mv, lv, .int .i64 pl] 29)).grownBy w9 (Value.slice lo ln lc).ownBlock → (v'.ownBlock = (Value.slice lo ln lc).ownBlock ∨ v'.ownBlock = some (X.alloc (.cells #[.int .i64 k, .string t, mv, lv, .int .i64 pl] 29)).heap.size) →
            (∀ x, x = g ∨ x = wr.heap.size ∨ x = N → w9.heap[x]? = X.heap[x]?) ∧ w9.cell? ⟨og, r.length * 3 + 2, none⟩ = some (.slice lo ln lc) ∧ w9.frozen? ⟨og, r.length * 3 + 2, none⟩ = false ∧
            (∀ x, x = g ∨ x = wr.heap.size ∨ x = N → (w9.setCell ⟨og, r.length * 3 + 2, none⟩ v').heap[x]? = X.heap[x]?) ∧ RetPut g s p (e.add d :: r, out) w (.returned (.tuple #[])) (w9.setCell ⟨og, r.length * 3 + 2, none⟩ v')) := by
  have hsz := h.size
  obtain ⟨og, c, arr, lw, dv, hR, hnc, hcm, hgo, hoN, hh, hcs, ⟨a0, a1, a2⟩, ⟨lo, lc, hlf⟩, hq, hlB, _, _, _⟩ := h.rd.top hgN
  obtain ⟨ln, hln⟩ : ∃ ln, ln = (if e.q = true then [] else e.ds).length := ⟨_, rfl⟩
  rw [← hln] at hlf
  subst hlf
  refine ⟨og, c, lo, ln, lc, hR.cells.2.2.1, hnc, hcm, by omega, ⟨?_, ?_, ?_⟩, fun X hb hX => ?_⟩
  · rw [Lib.cell_of_heap hh]; exact a0
  · rw [Lib.cell_of_heap hh]; exact a1
  · rw [Lib.cell_of_heap hh]; exact a2
  have hP := h.below hgN hb
  have hs := hb.size
  obtain ⟨og', c', arr', lw', dv', hR', _, _, _, _, hh', _, ⟨a0', a1', a2'⟩, _, _, hlB', hpop, _, hadd⟩ := hP.rd.top hgN
  have hg2 : X.heap[g]? = wr.heap[g]? := hb.block g (by omega)
  have e1 := hR'
  unfold Rs3 at e1 hR
  rw [hg2, hR] at e1
  injection e1 with e1
  injection e1 with e1 _ _
  simp only [Array.mk.injEq, List.cons.injEq, Value.slice.injEq, Option.some.injEq, Addr.mk.injEq, and_true, true_and] at e1
  obtain ⟨⟨rfl, rfl⟩, rfl⟩ := e1
  rw [hb.block og (by omega), hh] at hh'
  injection hh' with hh'
  injection hh' with hh' _ _
  subst hh'
  rw [a2] at a2'
  injection a2' with a2'
  subst a2'
  refine ⟨⟨hR'.cells.2.2.1, hR'.frozen 2, hP.box⟩, fun hqt => ⟨.inr trivial, ?_, ?_⟩, fun hqf => ?_⟩
  · have := hP.box
    unfold Boxed at this ⊢
    rw [Below.heap_setCell X _ _ N (by show N ≠ g; omega)]; exact this
  · obtain ⟨X1, hX1⟩ : ∃ X1, X1 = X.setCell ⟨g, 2, none⟩ (.slice (some ⟨og, 0, none⟩) r.length c) := ⟨_, rfl⟩
    rw [← hX1] at hpop ⊢
    have hX1s : X1.heap.size = X.heap.size := by rw [hX1]; simp [World.setCell]
    have hX1o : ∀ x, x ≠ g → X1.heap[x]? = X.heap[x]? := fun x hx => by rw [hX1]; exact Below.heap_setCell X _ _ x hx
    obtain ⟨X2, hX2⟩ : ∃ X2, X2 = X1.alloc (.cells #[.int .i64 3, .string ⟨#[113, 117, 111, 116, 101]⟩, .slice none 0 0, .slice none 0 0, .int .i64 e.pl, .int .i64 k, .string t, mv, lv, .int .i64 pl] 29) := ⟨_, rfl⟩
    have hX2n := alloc_at X1 (.cells #[.int .i64 3, .string ⟨#[113, 117, 111, 116, 101]⟩, .slice none 0 0, .slice none 0 0, .int .i64 e.pl, .int .i64 k, .string t, mv, lv, .int .i64 pl] 29)
    rw [← hX2, hX1s] at hX2n
    have hX2o : ∀ x, x < X.heap.size → X2.heap[x]? = X1.heap[x]? := fun x hx => by rw [hX2]; exact Lib.alloc_old X1 _ x (by omega)
    have hX2s : X2.heap.size = X.heap.size + 1 := by rw [hX2]; simp [hX1s]
    rw [← hX2]
    have hboxX : X2.heap[N]? = some (.cells #[.int .i64 k, .string t, mv, lv, .int .i64 pl] 29 (0, 0)) := by
      rw [hX2o N (by omega), hX1o N (by omega)]; exact hP.box
    obtain ⟨X3, hX3⟩ : ∃ X3, X3 = X2.setRow N #[.int .i64 4, .string ⟨#[]⟩, .slice none 0 0, .slice (some ⟨X.heap.size, 0, none⟩) 2 2, .int .i64 e.pl] := ⟨_, rfl⟩
    have hX3N : X3.heap[N]? = some (.cells #[.int .i64 4, .string ⟨#[]⟩, .slice none 0 0, .slice (some ⟨X.heap.size, 0, none⟩) 2 2, .int .i64 e.pl] 29 (0, 0)) := by rw [hX3]; exact setRow_box X2 N _ _ hboxX
    have hX3o : ∀ x, x ≠ N → X3.heap[x]? = X2.heap[x]? := fun x hx => by rw [hX3]; exact setRow_other X2 N x _ hx
    have hX3s : X3.heap.size = X2.heap.size := by rw [hX3]; simp
    rw [← hX3]
    have hlN : ∀ x, (Value.slice lo ln lc).ownBlock = some x → x < N := fun x hx => (hlB x hx).2.1
    refine ⟨_, hpop.keep (fun x _ hx => by rw [hX3o x (by omega), hX2o x (by omega)]) hgN (by omega), ?_, hX3N, ?_, by omega⟩
    · -- the new datum
      have hdd : Dt.At (fun x => (D x ∨ (Value.slice lo ln lc).ownBlock = some x) ∨ N + 1 ≤ x) X3 d #[.int .i64 k, .string t, mv, lv, .int .i64 pl] := by
        have b1 := Dt.At.bound _ _ hP.dat
        obtain ⟨ov0, dv0, xs0, _, _, _, hD0, _⟩ := hP.rd
        have b2 := Dt.At.keeps (w' := X3) (fun x c T fz hx hh _ => ⟨fz, by
          have hxN : x ≠ N := by
            rcases hx.1 with h | h
            · have := (hD0 x h).2; omega
            · omega
          have hxg : x ≠ g := by
            rcases hx.1 with h | h
            · have := (hD0 x h).1; omega
            · omega
          rw [hX3o x hxN, hX2o x hx.2, hX1o x hxg]; exact hh⟩) _ _ b1
        exact Dt.At.mono (fun x hx => hx.1.imp (fun h => .inl h) id) _ _ b2
      have hds := hq hqt
      have hnew : X3.heap[X.heap.size]? = some (.cells #[.int .i64 3, .string ⟨#[113, 117, 111, 116, 101]⟩, .slice none 0 0, .slice none 0 0, .int .i64 e.pl, .int .i64 k, .string t, mv, lv, .int .i64 pl] 29 (0, 0)) := by rw [hX3o _ (by omega)]; exact hX2n
      have hdt : (e.add d).dt = .mk 4 ⟨#[]⟩ [] [.mk 3 qT [] [] e.pl, d] e.pl := by
        simp [En.dt, En.add, hds]
      rw [hdt, At_mk]
      refine ⟨_, _, rfl, .inl ⟨rfl, rfl⟩, .inr ⟨X.heap.size, 0, 2, _, _, rfl, .inr (by omega), hnew, ?_, by simp⟩⟩
      unfold Dts.At
      refine ⟨⟨#[.int .i64 3, .string ⟨#[113, 117, 111, 116, 101]⟩, .slice none 0 0, .slice none 0 0, .int .i64 e.pl], fun i hi => ?_, ?_⟩, ?_⟩
      · have h5 : i = 0 ∨ i = 1 ∨ i = 2 ∨ i = 3 ∨ i = 4 := by omega
        rcases h5 with rfl | rfl | rfl | rfl | rfl <;> rfl
      · rw [At_mk]
        exact ⟨_, _, rfl, .inl ⟨rfl, rfl⟩, .inl ⟨rfl, rfl⟩⟩
      · unfold Dts.At
        refine ⟨⟨_, fun i hi => ?_, hdd⟩, ?_⟩
        · have h5 : i = 0 ∨ i = 1 ∨ i = 2 ∨ i = 3 ∨ i = 4 := by omega
          rcases h5 with rfl | rfl | rfl | rfl | rfl <;> rfl
        · unfold Dts.At; trivial
    · have l1 : Below g w X1 := by rw [hX1]; exact hP.low.setCell (p := ⟨g, 2, none⟩) (Nat.le_refl _) _
      have l2 : Below g w X2 := by rw [hX2]; exact l1.alloc (by omega) _
      rw [hX3]
      exact below_setRowB l2 _ _ (by omega)
  · have hlneq : ln = e.ds.length := by rw [hln, hqf]; simp
    refine ⟨hlneq, ?_⟩
    obtain ⟨wa, hwa⟩ : ∃ wa, wa = X.alloc (.cells #[.int .i64 k, .string t, mv, lv, .int .i64 pl] 29) := ⟨_, rfl⟩
    have hwas : wa.heap.size = X.heap.size + 1 := by rw [hwa]; simp
    have hwao : ∀ x, x < X.heap.size → wa.heap[x]? = X.heap[x]? := fun x hx => by rw [hwa]; exact Lib.alloc_old X _ x hx
    have hda : Dt.At (fun x => D x ∨ (N + 1 ≤ x ∧ x < wa.heap.size)) wa d #[.int .i64 k, .string t, mv, lv, .int .i64 pl] := by
      have b1 := Dt.At.keeps (w' := wa) (fun x c T fz hx hh _ => ⟨fz, by rw [hwao x hx.2]; exact hh⟩) _ _ (Dt.At.bound _ _ hP.dat)
      exact Dt.At.mono (fun x hx => by
        rcases hx.1 with h | h
        · exact .inl h
        · exact .inr ⟨h, by have := hx.2; omega⟩) _ _ b1
    obtain ⟨xs, hown, hnx⟩ := hadd hqf wa (fun x => D x ∨ (N + 1 ≤ x ∧ x < wa.heap.size)) d #[.int .i64 k, .string t, mv, lv, .int .i64 pl] (fun x _ hx => hwao x (by omega)) (by omega) (fun x h => .inl h) (fun x h => h.imp id (fun h => ⟨by omega, h.2⟩)) rfl hda
    rw [← hlneq] at hown hnx
    rw [← hwa]
    refine ⟨xs, hown, by omega, fun v' w9 h9 hg hv => ?_⟩
    have hs9 := hg.size
    have hlt : ∀ x, (Value.slice lo ln lc).ownBlock = some x → g + 1 ≤ x ∧ x < N ∧ x ≠ og := hlB
    have old : ∀ x, x < X.heap.size → (Value.slice lo ln lc).ownBlock ≠ some x → w9.heap[x]? = X.heap[x]? := fun x hx hn => by
      rw [hg.block x (by omega) (fun e => hn e.symm), hwao x hx]
    have o3 : ∀ x, x = g ∨ x = wr.heap.size ∨ x = N → w9.heap[x]? = X.heap[x]? := fun x hx => old x (by omega) (fun e => by have := hlt x e; omega)
    have hog9 : w9.heap[og]? = some (.cells arr 137 (0, 0)) := by
      rw [old og (by omega) (fun e => (hlt og e).2.2 rfl), hb.block og (by omega)]; exact hh
    have hfin := hnx v' w9 h9 hg (by
      rcases hv with e | e
      · exact .inl e
      · exact .inr ⟨_, e, Nat.le_refl _, (h9.lt _ e).2⟩)
    have hse : (w9.setCell ⟨og, r.length * 3 + 2, none⟩ v').heap.size = w9.heap.size := by simp [World.setCell]
    refine ⟨o3, ?_, frozen_of_row w9 og _ arr 137 hog9, fun x hx => ?_, rfl, ?_, by rw [hse]; omega, ?_⟩
    · rw [Lib.cell_of_heap hog9]; exact a2
    · rw [Below.heap_setCell w9 _ _ x (by show x ≠ og; omega)]; exact o3 x hx
    · have hba : Below g w wa := by rw [hwa]; exact hP.low.alloc (by omega) _
      exact (below_grown hba hg (by omega) (fun x hx => by have := (hlt x hx).1; omega)).setCell (p := ⟨og, r.length * 3 + 2, none⟩) (by show g ≤ og; omega) _
    · rw [hse]
      exact ⟨_, hfin⟩
end Go.Proofs.Ythhaegncnoekbaa
