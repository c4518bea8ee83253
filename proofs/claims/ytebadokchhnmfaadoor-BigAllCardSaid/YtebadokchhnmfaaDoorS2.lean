/- The contract of difference. -/
import Derived.Test.YtebadokchhnmfaaDoorS1
namespace Go.Proofs.YtebadokchhnmfaaDoor
open Go.RowKit Go.BigM
set_option linter.unusedVariables false

set_option maxHeartbeats 1000000 in
set_option maxRecDepth 100000 in
theorem difference_any (L M : List Nat) (hL : L.length = 46) (hM : M.length = 46) (sL : Small L) (sM : Small M) (hle : lval M ≤ lval L) (w : World) :
    Calls Tryd.prog 46 #[.agg (U L), .agg (U M)] w (RetL w fun S => lval S + lval M = lval L) := by
  have HLE := Lib.hid hle
  clear hle
  go_enter Tryd.func46, Tryd.ntmps46
  go_wp2_with fail
  rw [U_zeros]
  obtain ⟨r1, r2, r3, hb⟩ := three_rows w L M
  generalize ((w.alloc (.cells (U L) 47)).alloc (.cells (U M) 47)).alloc (.cells (U Z46) 47) = W at r1 r2 r3 hb ⊢
  refine (used_any _ 0 L hL W (r1.cells 46 (by omega))).mono ?_
  rintro e w' ⟨rfl, rfl⟩
  have R1 := Lib.hid r1
  have R2 := Lib.hid r2
  have R3 := Lib.hid r3
  have HB := Lib.hid hb
  have hu0 := usedOf_le L
  have HL := Lib.hid hL
  have HM := Lib.hid hM
  obtain ⟨u, eu⟩ : ∃ u, u = usedOf L := ⟨_, rfl⟩
  rw [← eu, hL] at hu0
  rw [← eu]
  have EU := Lib.hid eu
  clear r1 r2 r3 hb hL hM eu
  go_wp2_with fail
  refine (window_z _ 0 u _ rfl (by omega) W).mono ?_
  rintro e w' ⟨rfl, rfl⟩
  go_wp2_with fail
  refine (window_z _ 0 u _ rfl (by omega) W).mono ?_
  rintro e w' ⟨rfl, rfl⟩
  go_wp2_with fail
  refine (takeTimes_any w.heap.size 0 u _ (w.heap.size + 1) 0 u _ 1 L (M.take u) 47 W (by rw [HL.out]; omega) (by rw [HL.out]; omega) sL (sM.take _) R1.out (by omega) (by rw [List.length_take, HM.out]; omega) (by omega) (by omega) ?_).mono ?_
  · intro j hj
    rw [R2.out.cells 46 (by rw [HM.out]; omega) j (by omega), lg_take _ _ _ hj]
  rintro e w' ⟨rfl, cv, ha⟩
  obtain ⟨S, hw, hS, sS, hval⟩ := ha.diff HL.out (by omega) sL (by rw [← EU.out]; omega) HLE.out sM
  subst hw
  have R1' := R1.out.set S
  have R3' := R3.out.other (U S) (show w.heap.size + 1 + 1 ≠ w.heap.size by omega)
  have HB' := below_setRow HB.out w.heap.size (U S) (Nat.le_refl _)
  generalize W.setRow w.heap.size (U S) = W' at R1' R3' HB' ⊢
  have A1 := Lib.hid R1'
  have A3 := Lib.hid R3'
  have AB := Lib.hid HB'
  have AS := Lib.hid hS
  have AV := Lib.hid hval
  clear R1' R3' HB' hS hval ha
  go_wp2_with (first | (refine wpList_load_row rfl 47 _ rfl w.heap.size rfl 47 (U S) (0, 0) _ A1.out Tryd.underlying47 rfl (by rw [U_size, AS.out]; exact info47) ?_) | (refine wpList_store_row rfl 47 _ _ rfl (w.heap.size + 1 + 1) (U S) rfl rfl 47 (U Z46) A3.out (by rw [U_size, AS.out]; exact info47) (by rw [U_size, U_size, AS.out]; rfl) (U_one S) ?_))
  have A4 := Lib.hid (A3.out.set S)
  have AC := Lib.hid (below_setRow AB.out (w.heap.size + 1 + 1) (U S) (by omega))
  generalize W'.setRow (w.heap.size + 1 + 1) (U S) = W'' at A4 AC ⊢
  go_wp2
  refine bodyPost_end (results_cell_row rfl _ _ (w.heap.size + 1 + 1) 47 (U S) (0, 0) _ rfl A4.out Tryd.underlying47 rfl (by rw [U_size, AS.out]; exact info47)) rfl ?_
  exact ⟨S, rfl, AS.out, sS, AV.out, AC.out⟩
end Go.Proofs.YtebadokchhnmfaaDoor
