/- The contract of plus, of two signs. -/
import Derived.Test.YtebadokchhnmfaaDoorP2
import Derived.BigQuiet
import Derived.Deep.QuietTactic
namespace Go.Proofs.YtebadokchhnmfaaDoor
open Go.RowKit Go.BigM
set_option linter.unusedVariables false
set_option linter.unusedSimpArgs false

theorem NRow.drewN {w : World} {g : Nat} {b : Bool} {l : List Nat} (k : NRow w g b l) (n : Nat) : NRow (w.drewN n) g b l := k

set_option maxHeartbeats 2000000 in
set_option maxRecDepth 100000 in
theorem plus_lt (b c : Bool) (hbc : (b == c) = false) (L M : List Nat) (hL : L.length = 46) (hM : M.length = 46) (sL : Small L) (sM : Small M) (hlt : lval L < lval M) (w : World) :
    Calls Tryd.prog 31 #[.agg (Nm b L), .agg (Nm c M)] w (RetN w c (lval M - lval L)) := by
  have hN1 := Nm_sign b L
  have hN2 := Nm_sign c M
  have n3 := three_nums w b L c M
  have HLT := Lib.hid hlt
  clear hlt
  go_enter Tryd.func31, Tryd.ntmps31
  go_wp2_with fail
  rw [Nm_zeros]
  obtain ⟨r1, r2, r3, hb⟩ := n3
  have hz : w.heap.size + 1 + 1 < (((w.alloc (.cells (Nm b L) 49)).alloc (.cells (Nm c M) 49)).alloc (.cells (Nm false Z46) 49)).heap.size := by simp
  generalize ((w.alloc (.cells (Nm b L) 49)).alloc (.cells (Nm c M) 49)).alloc (.cells (Nm false Z46) 49) = W at r1 r2 r3 hb hz ⊢
  have HL := Lib.hid hL
  have HM := Lib.hid hM
  have R1 := Lib.hid r1
  have R2 := Lib.hid r2
  have R3 := Lib.hid r3
  have HB := Lib.hid hb
  clear hN1 hN2 hL hM r1 r2 r3 hb
  go_quiet ((go_at_call 45; refine Calls.quiet_of (less_any w.heap.size 1 46 (w.heap.size + 1) 1 46 46 L M (by omega) HL.out HM.out sL sM _ ((R1.out.drewN _).cells 46 (by rw [HL.out]; omega)) ((R2.out.drewN _).cells 46 (by rw [HM.out]; omega)))))
  have HD : Hid (decide (lval L < lval M) = true) := decide_eq_true HLT.out
  rw [HD.out]
  obtain ⟨W1, hW1⟩ : ∃ W1, W1 = W.drewN nq := ⟨_, rfl⟩
  rw [← hW1]
  have A1 : Hid (NRow W1 w.heap.size b L) := by show NRow _ _ _ _; rw [hW1]; exact R1.out
  have A2 : Hid (NRow W1 (w.heap.size + 1) c M) := by show NRow _ _ _ _; rw [hW1]; exact R2.out
  have A3 : Hid (NRow W1 (w.heap.size + 1 + 1) false Z46) := by show NRow _ _ _ _; rw [hW1]; exact R3.out
  have AB : Hid (Below w.heap.size w W1) := by show Below _ _ _; rw [hW1]; exact below_drewN HB.out nq
  have hz' : w.heap.size + 1 + 1 < W1.heap.size := by rw [hW1]; exact hz
  clear hW1 hz
  go_wp2_with (first | (refine wpList_load_row rfl 49 _ rfl (w.heap.size + 1) rfl 49 (Nm c M) (0, 0) _ A2.out Tryd.underlying49 rfl (by rw [Nm_size, HM.out]; exact info49) ?_) | (refine wpList_load_row rfl 49 _ rfl w.heap.size rfl 49 (Nm b L) (0, 0) _ A1.out Tryd.underlying49 rfl (by rw [Nm_size, HL.out]; exact info49) ?_) | (refine wpList_store_row rfl 49 _ _ rfl w.heap.size (Nm c M) rfl rfl 49 (Nm b L) A1.out (by rw [Nm_size, HM.out]; exact info49) (by rw [Nm_size, Nm_size, HL.out, HM.out]) (Nm_one c M) ?_) | (refine wpList_store_row rfl 49 _ _ rfl (w.heap.size + 1) (Nm b L) rfl rfl 49 (Nm c M) (A2.out.other _ (by omega)) (by rw [Nm_size, HL.out]; exact info49) (by rw [Nm_size, Nm_size, HL.out, HM.out]) (Nm_one b L) ?_))
  have r1 : NRow ((W1.setRow w.heap.size (Nm c M)).setRow (w.heap.size + 1) (Nm b L)) w.heap.size c M := (A1.out.set c M).other _ (by omega)
  have r2 : NRow ((W1.setRow w.heap.size (Nm c M)).setRow (w.heap.size + 1) (Nm b L)) (w.heap.size + 1) b L := (A2.out.other _ (by omega)).set b L
  have r3 : NRow ((W1.setRow w.heap.size (Nm c M)).setRow (w.heap.size + 1) (Nm b L)) (w.heap.size + 1 + 1) false Z46 := (A3.out.other _ (by omega)).other _ (by omega)
  have hb := below_setRow (below_setRow AB.out w.heap.size (Nm c M) (Nat.le_refl _)) (w.heap.size + 1) (Nm b L) (by omega)
  have hz : w.heap.size + 1 + 1 < ((W1.setRow w.heap.size (Nm c M)).setRow (w.heap.size + 1) (Nm b L)).heap.size := by simpa using hz'
  generalize (W1.setRow w.heap.size (Nm c M)).setRow (w.heap.size + 1) (Nm b L) = W2 at r1 r2 r3 hb hz ⊢
  have hz3 : w.heap.size + 1 + 1 < W2.drew.heap.size := hz
  have hz2 : w.heap.size + 1 < W2.drew.heap.size := by show _ < W2.heap.size; omega
  have hz1 : w.heap.size < W2.drew.heap.size := by show _ < W2.heap.size; omega
  have hu47 := Tryd.underlying47
  have hi1 : (Tryd.prog.info? 47).map (·.size) = some (Uc M).length := by rw [Uc_len, HM.out]; exact info47
  have hi2 : (Tryd.prog.info? 47).map (·.size) = some (Uc L).length := by rw [Uc_len, HL.out]; exact info47
  refine wp_region_noPanic ?_
  refine wp_region_held_drew (S := fun w' => NRow w' w.heap.size c M ∧ NRow w' (w.heap.size + 1) b L) (by kernel_rfl) (⟨r1, r2⟩) (fun hHeld => ?_)
  refine wpAnyH_take (i := 0) (v := .pointer (some ⟨w.heap.size, 0, none⟩)) rfl (by kernel_rfl) (by kernel_rfl) (by kernel_rfl) (fun _ _ _ h => h) (Or.inl ⟨rfl, fun w' hw' => ?_⟩) hHeld ?_
  · go_simp
  simp only [Act.put, List.setIfInBounds_toArray, List.set_cons_zero, List.set_cons_succ]
  refine wpAnyH_take (i := 1) (v := .bool c) rfl (by kernel_rfl) (by kernel_rfl) (by kernel_rfl) (fun _ _ _ h => h) (Or.inl ⟨rfl, fun w' hw' => ?_⟩) hHeld ?_
  · have hc := hw'.1.sign; go_simp
  simp only [Act.put, List.setIfInBounds_toArray, List.set_cons_zero, List.set_cons_succ]
  refine wpAnyH_take (i := 2) (v := .pointer (some ⟨w.heap.size, 1, none⟩)) rfl (by kernel_rfl) (by kernel_rfl) (by kernel_rfl) (fun _ _ _ h => h) (Or.inl ⟨rfl, fun w' hw' => ?_⟩) hHeld ?_
  · go_simp
  simp only [Act.put, List.setIfInBounds_toArray, List.set_cons_zero, List.set_cons_succ]
  refine wpAnyH_take (i := 3) rfl (by kernel_rfl) (by kernel_rfl) (by kernel_rfl) (fun _ _ _ h => h) (yieldsIf_load_mid (by rfl) _ _ rfl _ _ rfl _ _ (fun w' hw' => hw'.1.range) hu47 rfl hi1) hHeld ?_
  simp only [Act.put, List.setIfInBounds_toArray, List.set_cons_zero, List.set_cons_succ]
  refine wpAnyH_take (i := 4) (v := .pointer (some ⟨w.heap.size + 1, 1, none⟩)) rfl (by kernel_rfl) (by kernel_rfl) (by kernel_rfl) (fun _ _ _ h => h) (Or.inl ⟨rfl, fun w' hw' => ?_⟩) hHeld ?_
  · go_simp
  simp only [Act.put, List.setIfInBounds_toArray, List.set_cons_zero, List.set_cons_succ]
  refine wpAnyH_take (i := 5) rfl (by kernel_rfl) (by kernel_rfl) (by kernel_rfl) (fun _ _ _ h => h) (yieldsIf_load_mid (by rfl) _ _ rfl _ _ rfl _ _ (fun w' hw' => hw'.2.range) hu47 rfl hi2) hHeld ?_
  simp only [Act.put, List.setIfInBounds_toArray, List.set_cons_zero, List.set_cons_succ]
  refine wpAnyH_ready (rs := [6]) (by kernel_rfl) (by simp) ?_
  refine AllReadyH.cons rfl (fun K hK => ?_) AllReadyH.nil
  go_simp
  refine (difference_any M L HM.out HL.out sM sL (Nat.le_of_lt HLT.out) _).mono ?_
  rintro e w1 ⟨S, rfl, hS, sS, vS, b1⟩
  have q1 : NRow w1 w.heap.size c M := NRow.below (w := W2.drew) r1 b1 hz1
  have q2 : NRow w1 (w.heap.size + 1) b L := NRow.below (w := W2.drew) r2 b1 hz2
  have q3 : NRow w1 (w.heap.size + 1 + 1) false Z46 := NRow.below (w := W2.drew) r3 b1 hz3
  refine hK.out _ _ ⟨q1, q2⟩ (fun hHeld => ?_)
  clear hK K
  refine wpAnyH_ready (rs := [7]) (by kernel_rfl) (by simp) ?_
  refine AllReadyH.cons rfl (fun K hK => ?_) AllReadyH.nil
  rw [if_pos (by rfl)]
  refine wp_build_to 49 _ rfl [(0, .bool c), (1, .agg (U S))] (by simp [Act.eval]) (Nm c S) (built_pair c S hS) ?_
  refine hK.out _ _ ⟨q1, q2⟩ (fun hHeld => ?_)
  clear hK K
  simp only [List.getElem_toArray, List.getElem_cons_succ, List.getElem_cons_zero, Act.put, List.setIfInBounds_toArray, List.set_cons_zero, List.set_cons_succ]
  refine wpAnyH_ready (rs := [8]) (by kernel_rfl) (by simp) ?_
  refine AllReadyH.cons rfl (fun K hK => ?_) AllReadyH.nil
  rw [if_pos (by rfl)]
  refine wp_store_row 49 _ _ rfl (w.heap.size + 1 + 1) (Nm c S) rfl rfl 49 _ q3 (by rw [Nm_size, hS]; exact info49) (by rw [Nm_size, Nm_size, hS]; rfl) (Nm_one c S) ?_
  refine hK.out _ _ ⟨q1.other _ (by omega), q2.other _ (by omega)⟩ (fun hHeld => ?_)
  clear hK K
  have A := q3.set c S
  have bb : Below w.heap.size w w1 := hb.trans ((Below.drew (Below.refl _ _)).trans (b1.mono (by show w.heap.size ≤ W2.heap.size; omega)))
  have AC := below_setRow bb (w.heap.size + 1 + 1) (Nm c S) (by omega)
  generalize w1.setRow (w.heap.size + 1 + 1) (Nm c S) = W' at A AC ⊢
  simp only [List.getElem_toArray, List.getElem_cons_succ, List.getElem_cons_zero, Act.put, List.setIfInBounds_toArray, List.set_cons_zero, List.set_cons_succ]
  refine wpAnyH_done (by kernel_rfl) ?_ _
  refine NoPanic.normal ?_
  clear q1 q2 q3 b1 hHeld r1 r2 r3 hb hz hz1 hz2 hz3 hi1 hi2 hu47
  have HS := Lib.hid hS
  have VS := Lib.hid vS
  clear hS vS
  go_wp2
  refine bodyPost_ret (results_cell_row rfl _ _ (w.heap.size + 1 + 1) 49 (Nm c S) (0, 0) _ rfl A Tryd.underlying49 rfl (by rw [Nm_size, HS.out]; exact info49)) rfl ?_
  exact ⟨S, rfl, HS.out, sS, by have := VS.out; have := HLT.out; omega, AC⟩

set_option maxHeartbeats 2000000 in
set_option maxRecDepth 100000 in
theorem plus_ge (b c : Bool) (hbc : (b == c) = false) (L M : List Nat) (hL : L.length = 46) (hM : M.length = 46) (sL : Small L) (sM : Small M) (hlt : lval M ≤ lval L) (w : World) :
    Calls Tryd.prog 31 #[.agg (Nm b L), .agg (Nm c M)] w (RetN w b (lval L - lval M)) := by
  have hN1 := Nm_sign b L
  have hN2 := Nm_sign c M
  have n3 := three_nums w b L c M
  have HLT := Lib.hid hlt
  clear hlt
  go_enter Tryd.func31, Tryd.ntmps31
  go_wp2_with fail
  rw [Nm_zeros]
  obtain ⟨r1, r2, r3, hb⟩ := n3
  have hz : w.heap.size + 1 + 1 < (((w.alloc (.cells (Nm b L) 49)).alloc (.cells (Nm c M) 49)).alloc (.cells (Nm false Z46) 49)).heap.size := by simp
  generalize ((w.alloc (.cells (Nm b L) 49)).alloc (.cells (Nm c M) 49)).alloc (.cells (Nm false Z46) 49) = W at r1 r2 r3 hb hz ⊢
  have HL := Lib.hid hL
  have HM := Lib.hid hM
  have R1 := Lib.hid r1
  have R2 := Lib.hid r2
  have R3 := Lib.hid r3
  have HB := Lib.hid hb
  clear hN1 hN2 hL hM r1 r2 r3 hb
  go_quiet ((go_at_call 45; refine Calls.quiet_of (less_any w.heap.size 1 46 (w.heap.size + 1) 1 46 46 L M (by omega) HL.out HM.out sL sM _ ((R1.out.drewN _).cells 46 (by rw [HL.out]; omega)) ((R2.out.drewN _).cells 46 (by rw [HM.out]; omega)))))
  have HD : Hid (decide (lval L < lval M) = false) := decide_eq_false (by have := HLT.out; omega)
  rw [HD.out]
  obtain ⟨W2, hW2⟩ : ∃ W2, W2 = W.drewN nq := ⟨_, rfl⟩
  rw [← hW2]
  have r1 : NRow W2 w.heap.size b L := by rw [hW2]; exact R1.out
  have r2 : NRow W2 (w.heap.size + 1) c M := by rw [hW2]; exact R2.out
  have r3 : NRow W2 (w.heap.size + 1 + 1) false Z46 := by rw [hW2]; exact R3.out
  have hb : Below w.heap.size w W2 := by rw [hW2]; exact below_drewN HB.out nq
  have hz : w.heap.size + 1 + 1 < W2.heap.size := by rw [hW2]; exact hz
  clear hW2
  go_wp2_with fail
  have hz3 : w.heap.size + 1 + 1 < W2.drew.heap.size := hz
  have hz2 : w.heap.size + 1 < W2.drew.heap.size := by show _ < W2.heap.size; omega
  have hz1 : w.heap.size < W2.drew.heap.size := by show _ < W2.heap.size; omega
  have hu47 := Tryd.underlying47
  have hi1 : (Tryd.prog.info? 47).map (·.size) = some (Uc L).length := by rw [Uc_len, HL.out]; exact info47
  have hi2 : (Tryd.prog.info? 47).map (·.size) = some (Uc M).length := by rw [Uc_len, HM.out]; exact info47
  refine wp_region_noPanic ?_
  refine wp_region_held_drew (S := fun w' => NRow w' w.heap.size b L ∧ NRow w' (w.heap.size + 1) c M) (by kernel_rfl) (⟨r1, r2⟩) (fun hHeld => ?_)
  refine wpAnyH_take (i := 0) (v := .pointer (some ⟨w.heap.size, 0, none⟩)) rfl (by kernel_rfl) (by kernel_rfl) (by kernel_rfl) (fun _ _ _ h => h) (Or.inl ⟨rfl, fun w' hw' => ?_⟩) hHeld ?_
  · go_simp
  simp only [Act.put, List.setIfInBounds_toArray, List.set_cons_zero, List.set_cons_succ]
  refine wpAnyH_take (i := 1) (v := .bool b) rfl (by kernel_rfl) (by kernel_rfl) (by kernel_rfl) (fun _ _ _ h => h) (Or.inl ⟨rfl, fun w' hw' => ?_⟩) hHeld ?_
  · have hc := hw'.1.sign; go_simp
  simp only [Act.put, List.setIfInBounds_toArray, List.set_cons_zero, List.set_cons_succ]
  refine wpAnyH_take (i := 2) (v := .pointer (some ⟨w.heap.size, 1, none⟩)) rfl (by kernel_rfl) (by kernel_rfl) (by kernel_rfl) (fun _ _ _ h => h) (Or.inl ⟨rfl, fun w' hw' => ?_⟩) hHeld ?_
  · go_simp
  simp only [Act.put, List.setIfInBounds_toArray, List.set_cons_zero, List.set_cons_succ]
  refine wpAnyH_take (i := 3) rfl (by kernel_rfl) (by kernel_rfl) (by kernel_rfl) (fun _ _ _ h => h) (yieldsIf_load_mid (by rfl) _ _ rfl _ _ rfl _ _ (fun w' hw' => hw'.1.range) hu47 rfl hi1) hHeld ?_
  simp only [Act.put, List.setIfInBounds_toArray, List.set_cons_zero, List.set_cons_succ]
  refine wpAnyH_take (i := 4) (v := .pointer (some ⟨w.heap.size + 1, 1, none⟩)) rfl (by kernel_rfl) (by kernel_rfl) (by kernel_rfl) (fun _ _ _ h => h) (Or.inl ⟨rfl, fun w' hw' => ?_⟩) hHeld ?_
  · go_simp
  simp only [Act.put, List.setIfInBounds_toArray, List.set_cons_zero, List.set_cons_succ]
  refine wpAnyH_take (i := 5) rfl (by kernel_rfl) (by kernel_rfl) (by kernel_rfl) (fun _ _ _ h => h) (yieldsIf_load_mid (by rfl) _ _ rfl _ _ rfl _ _ (fun w' hw' => hw'.2.range) hu47 rfl hi2) hHeld ?_
  simp only [Act.put, List.setIfInBounds_toArray, List.set_cons_zero, List.set_cons_succ]
  refine wpAnyH_ready (rs := [6]) (by kernel_rfl) (by simp) ?_
  refine AllReadyH.cons rfl (fun K hK => ?_) AllReadyH.nil
  go_simp
  refine (difference_any L M HL.out HM.out sL sM HLT.out _).mono ?_
  rintro e w1 ⟨S, rfl, hS, sS, vS, b1⟩
  have q1 : NRow w1 w.heap.size b L := NRow.below (w := W2.drew) r1 b1 hz1
  have q2 : NRow w1 (w.heap.size + 1) c M := NRow.below (w := W2.drew) r2 b1 hz2
  have q3 : NRow w1 (w.heap.size + 1 + 1) false Z46 := NRow.below (w := W2.drew) r3 b1 hz3
  refine hK.out _ _ ⟨q1, q2⟩ (fun hHeld => ?_)
  clear hK K
  refine wpAnyH_ready (rs := [7]) (by kernel_rfl) (by simp) ?_
  refine AllReadyH.cons rfl (fun K hK => ?_) AllReadyH.nil
  rw [if_pos (by rfl)]
  refine wp_build_to 49 _ rfl [(0, .bool b), (1, .agg (U S))] (by simp [Act.eval]) (Nm b S) (built_pair b S hS) ?_
  refine hK.out _ _ ⟨q1, q2⟩ (fun hHeld => ?_)
  clear hK K
  simp only [List.getElem_toArray, List.getElem_cons_succ, List.getElem_cons_zero, Act.put, List.setIfInBounds_toArray, List.set_cons_zero, List.set_cons_succ]
  refine wpAnyH_ready (rs := [8]) (by kernel_rfl) (by simp) ?_
  refine AllReadyH.cons rfl (fun K hK => ?_) AllReadyH.nil
  rw [if_pos (by rfl)]
  refine wp_store_row 49 _ _ rfl (w.heap.size + 1 + 1) (Nm b S) rfl rfl 49 _ q3 (by rw [Nm_size, hS]; exact info49) (by rw [Nm_size, Nm_size, hS]; rfl) (Nm_one b S) ?_
  refine hK.out _ _ ⟨q1.other _ (by omega), q2.other _ (by omega)⟩ (fun hHeld => ?_)
  clear hK K
  have A := q3.set b S
  have bb : Below w.heap.size w w1 := hb.trans ((Below.drew (Below.refl _ _)).trans (b1.mono (by show w.heap.size ≤ W2.heap.size; omega)))
  have AC := below_setRow bb (w.heap.size + 1 + 1) (Nm b S) (by omega)
  generalize w1.setRow (w.heap.size + 1 + 1) (Nm b S) = W' at A AC ⊢
  simp only [List.getElem_toArray, List.getElem_cons_succ, List.getElem_cons_zero, Act.put, List.setIfInBounds_toArray, List.set_cons_zero, List.set_cons_succ]
  refine wpAnyH_done (by kernel_rfl) ?_ _
  refine NoPanic.normal ?_
  clear q1 q2 q3 b1 hHeld r1 r2 r3 hb hz hz1 hz2 hz3 hi1 hi2 hu47
  have HS := Lib.hid hS
  have VS := Lib.hid vS
  clear hS vS
  go_wp2
  refine bodyPost_ret (results_cell_row rfl _ _ (w.heap.size + 1 + 1) 49 (Nm b S) (0, 0) _ rfl A Tryd.underlying49 rfl (by rw [Nm_size, HS.out]; exact info49)) rfl ?_
  exact ⟨S, rfl, HS.out, sS, by have := VS.out; have := HLT.out; omega, AC⟩

end Go.Proofs.YtebadokchhnmfaaDoor
