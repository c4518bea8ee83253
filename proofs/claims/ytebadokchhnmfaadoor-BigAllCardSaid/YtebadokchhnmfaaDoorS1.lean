/- Contracts of sum, difference. -/
import Derived.Test.YtebadokchhnmfaaDoorW2
import Derived.Test.YtebadokchhnmfaaDoorL1
import Derived.Deep.WholeRow
namespace Go.Proofs.YtebadokchhnmfaaDoor
open Go.RowKit Go.BigM
set_option linter.unusedVariables false

/-- It returns a row of limbs of which P holds, and nothing that was there has turned. -/
def RetL (w : World) (P : List Nat → Prop) (e : Ending) (w' : World) : Prop :=
  ∃ S, e = .returned (.agg (U S)) ∧ S.length = 46 ∧ Small S ∧ P S ∧ Below w.heap.size w w'

theorem info47 : (Tryd.prog.info? 47).map (·.size) = some 46 := by kernel_rfl

theorem lg_take (l : List Nat) (n j : Nat) (h : j < n) : lg (l.take n) j = lg l j := by
  unfold lg; rw [List.getD_eq_getElem?_getD, List.getD_eq_getElem?_getD, List.getElem?_take, if_pos h]

set_option maxHeartbeats 1000000 in
set_option maxRecDepth 100000 in
theorem sum_any (L M : List Nat) (hL : L.length = 46) (hM : M.length = 46) (sL : Small L) (sM : Small M) (n : Nat) (hn : n ≤ 45) (hu : usedOf L ≤ n) (hv : usedOf M ≤ n) (w : World) :
    Calls Tryd.prog 44 #[.agg (U L), .agg (U M)] w (RetL w fun S => lval S = lval L + lval M) := by
  go_enter Tryd.func44, Tryd.ntmps44
  go_wp2_with fail
  rw [U_zeros]
  obtain ⟨r1, r2, r3, hb⟩ := three_rows w L M
  generalize ((w.alloc (.cells (U L) 47)).alloc (.cells (U M) 47)).alloc (.cells (U Z46) 47) = W at r1 r2 r3 hb ⊢
  refine (used_any _ 0 L hL W (r1.cells 46 (by omega))).mono ?_
  rintro e w' ⟨rfl, rfl⟩
  have R1 := Lib.hid r1
  have R2 := Lib.hid r2
  have R3 := Lib.hid r3
  have HB := Lib.hid hb
  have HL := Lib.hid hL
  have HM := Lib.hid hM
  have HU := Lib.hid (lval_used L)
  have HV := Lib.hid (lval_used M)
  obtain ⟨u, eu⟩ : ∃ u, u = usedOf L := ⟨_, rfl⟩
  obtain ⟨v, ev⟩ : ∃ v, v = usedOf M := ⟨_, rfl⟩
  rw [← eu] at hu ⊢
  rw [← ev] at hv
  have EU := Lib.hid eu
  have EV := Lib.hid ev
  clear r1 r2 r3 hb hL hM eu ev
  go_wp2_with fail
  refine (used_any _ 0 M HM.out W (R2.out.cells 46 (by rw [HM.out]; omega))).mono ?_
  rintro e w' ⟨rfl, rfl⟩
  rw [← EV.out]
  go_wp2_with fail
  · have hk : v ≤ 45 ∧ u ≤ v ∧ v ≤ v := by omega
    refine (window_z _ 0 (v + 1) _ (by omega) (by omega) W).mono ?_
    rintro e w' ⟨rfl, rfl⟩
    go_wp2_with fail
    refine (window_z _ 0 v _ rfl (by omega) W).mono ?_
    rintro e w' ⟨rfl, rfl⟩
    go_wp2_with fail
    refine (addTimes_any w.heap.size 0 (v + 1) _ (w.heap.size + 1) 0 v _ 1 L (M.take v) 47 W (by rw [HL.out]; omega) (by rw [HL.out]; omega) sL (sM.take _) R1.out (by omega) (by rw [List.length_take, HM.out]; omega) (by omega) (by omega) ?_).mono ?_
    · intro j hj
      rw [R2.out.cells 46 (by rw [HM.out]; omega) j (by omega), lg_take _ _ _ hj]
    rintro e w' ⟨rfl, cv, ha⟩
    obtain ⟨S, hw, hS, sS, hval⟩ := ha.sum HL.out (by omega) sL sM (by rw [← EU.out]; omega) (by rw [← EV.out]; omega)
    subst hw
    have R1' := R1.out.set S
    have R3' := R3.out.other (U S) (show w.heap.size + 1 + 1 ≠ w.heap.size by omega)
    have HB' := below_setRow HB.out w.heap.size (U S) (Nat.le_refl _)
    generalize W.setRow w.heap.size (U S) = W' at R1' R3' HB' ⊢
    have A1 := Lib.hid R1'
    have A3 := Lib.hid R3'
    have AB := Lib.hid HB'
    have AS := Lib.hid hS
    have AV := Lib.hid hval
    clear R1' R3' HB' hS hval ha
    go_wp2_with (first | (refine wpList_load_row rfl 47 _ rfl w.heap.size rfl 47 (U S) (0, 0) _ A1.out Tryd.underlying47 rfl (by rw [U_size, AS.out]; exact info47) ?_) | (refine wpList_store_row rfl 47 _ _ rfl (w.heap.size + 1 + 1) (U S) rfl rfl 47 (U Z46) A3.out (by rw [U_size, AS.out]; exact info47) (by rw [U_size, U_size, AS.out]; rfl) (U_one S) ?_))
    have A4 := Lib.hid (A3.out.set S)
    have AC := Lib.hid (below_setRow AB.out (w.heap.size + 1 + 1) (U S) (by omega))
    generalize W'.setRow (w.heap.size + 1 + 1) (U S) = W'' at A4 AC ⊢
    go_wp2
    refine bodyPost_end (results_cell_row rfl _ _ (w.heap.size + 1 + 1) 47 (U S) (0, 0) _ rfl A4.out Tryd.underlying47 rfl (by rw [U_size, AS.out]; exact info47)) rfl ?_
    exact ⟨S, rfl, AS.out, sS, AV.out, AC.out⟩
  · have hk : u ≤ 45 ∧ u ≤ u ∧ v ≤ u := by omega
    refine (window_z _ 0 (u + 1) _ (by omega) (by omega) W).mono ?_
    rintro e w' ⟨rfl, rfl⟩
    go_wp2_with fail
    refine (window_z _ 0 u _ rfl (by omega) W).mono ?_
    rintro e w' ⟨rfl, rfl⟩
    go_wp2_with fail
    refine (addTimes_any w.heap.size 0 (u + 1) _ (w.heap.size + 1) 0 u _ 1 L (M.take u) 47 W (by rw [HL.out]; omega) (by rw [HL.out]; omega) sL (sM.take _) R1.out (by omega) (by rw [List.length_take, HM.out]; omega) (by omega) (by omega) ?_).mono ?_
    · intro j hj
      rw [R2.out.cells 46 (by rw [HM.out]; omega) j (by omega), lg_take _ _ _ hj]
    rintro e w' ⟨rfl, cv, ha⟩
    obtain ⟨S, hw, hS, sS, hval⟩ := ha.sum HL.out (by omega) sL sM (by rw [← EU.out]; omega) (by rw [← EV.out]; omega)
    subst hw
    have R1' := R1.out.set S
    have R3' := R3.out.other (U S) (show w.heap.size + 1 + 1 ≠ w.heap.size by omega)
    have HB' := below_setRow HB.out w.heap.size (U S) (Nat.le_refl _)
    generalize W.setRow w.heap.size (U S) = W' at R1' R3' HB' ⊢
    have A1 := Lib.hid R1'
    have A3 := Lib.hid R3'
    have AB := Lib.hid HB'
    have AS := Lib.hid hS
    have AV := Lib.hid hval
    clear R1' R3' HB' hS hval ha
    go_wp2_with (first | (refine wpList_load_row rfl 47 _ rfl w.heap.size rfl 47 (U S) (0, 0) _ A1.out Tryd.underlying47 rfl (by rw [U_size, AS.out]; exact info47) ?_) | (refine wpList_store_row rfl 47 _ _ rfl (w.heap.size + 1 + 1) (U S) rfl rfl 47 (U Z46) A3.out (by rw [U_size, AS.out]; exact info47) (by rw [U_size, U_size, AS.out]; rfl) (U_one S) ?_))
    have A4 := Lib.hid (A3.out.set S)
    have AC := Lib.hid (below_setRow AB.out (w.heap.size + 1 + 1) (U S) (by omega))
    generalize W'.setRow (w.heap.size + 1 + 1) (U S) = W'' at A4 AC ⊢
    go_wp2
    refine bodyPost_end (results_cell_row rfl _ _ (w.heap.size + 1 + 1) 47 (U S) (0, 0) _ rfl A4.out Tryd.underlying47 rfl (by rw [U_size, AS.out]; exact info47)) rfl ?_
    exact ⟨S, rfl, AS.out, sS, AV.out, AC.out⟩
end Go.Proofs.YtebadokchhnmfaaDoor
