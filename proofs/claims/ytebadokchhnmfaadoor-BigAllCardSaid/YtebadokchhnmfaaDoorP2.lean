/- The contract of plus. -/
import Derived.Test.YtebadokchhnmfaaDoorP1
namespace Go.Proofs.YtebadokchhnmfaaDoor
open Go.RowKit Go.BigM
set_option linter.unusedVariables false
set_option linter.unusedSimpArgs false

/-- Two numbers that are boxed, one of noughts behind them. -/
theorem three_nums (w : World) (b : Bool) (L : List Nat) (c : Bool) (M : List Nat) : 
    NRow (((w.alloc (.cells (Nm b L) 49)).alloc (.cells (Nm c M) 49)).alloc (.cells (Nm false Z46) 49)) w.heap.size b L ∧
    NRow (((w.alloc (.cells (Nm b L) 49)).alloc (.cells (Nm c M) 49)).alloc (.cells (Nm false Z46) 49)) (w.heap.size + 1) c M ∧
    NRow (((w.alloc (.cells (Nm b L) 49)).alloc (.cells (Nm c M) 49)).alloc (.cells (Nm false Z46) 49)) (w.heap.size + 1 + 1) false Z46 ∧
    Below w.heap.size w (((w.alloc (.cells (Nm b L) 49)).alloc (.cells (Nm c M) 49)).alloc (.cells (Nm false Z46) 49)) :=
  ⟨((NRow.new _ _ _ _ rfl).alloc _).alloc _, (NRow.new _ _ _ _ (by simp)).alloc _, NRow.new _ _ _ _ (by simp),
    (((Below.refl _ _).alloc (by simp) _).alloc (by simp) _).alloc (by simp; omega) _⟩

set_option maxHeartbeats 2000000 in
set_option maxRecDepth 100000 in
theorem plus_same (b : Bool) (L M : List Nat) (hL : L.length = 46) (hM : M.length = 46) (sL : Small L) (sM : Small M) (n : Nat) (hn : n ≤ 45) (hu : usedOf L ≤ n) (hv : usedOf M ≤ n) (w : World) :
    Calls Tryd.prog 31 #[.agg (Nm b L), .agg (Nm b M)] w (RetN w b (lval L + lval M)) := by
  have hN1 := Nm_sign b L
  have hN2 := Nm_sign b M
  have n3 := three_nums w b L b M
  go_enter Tryd.func31, Tryd.ntmps31
  go_wp2_with fail
  rw [Nm_zeros]
  obtain ⟨r1, r2, r3, hb⟩ := n3
  have hz : w.heap.size + 1 + 1 < (((w.alloc (.cells (Nm b L) 49)).alloc (.cells (Nm b M) 49)).alloc (.cells (Nm false Z46) 49)).heap.size := by simp
  generalize ((w.alloc (.cells (Nm b L) 49)).alloc (.cells (Nm b M) 49)).alloc (.cells (Nm false Z46) 49) = W at r1 r2 r3 hb hz ⊢
  clear hN1 hN2
  have hz3 : w.heap.size + 1 + 1 < W.drew.heap.size := hz
  have hz2 : w.heap.size + 1 < W.drew.heap.size := by show _ < W.heap.size; omega
  have hz1 : w.heap.size < W.drew.heap.size := by show _ < W.heap.size; omega
  have hu47 := Tryd.underlying47
  have hi1 : (Tryd.prog.info? 47).map (·.size) = some (Uc L).length := by rw [Uc_len, hL]; exact info47
  have hi2 : (Tryd.prog.info? 47).map (·.size) = some (Uc M).length := by rw [Uc_len, hM]; exact info47
  refine wp_region_noPanic ?_
  refine wp_region_held_drew (S := fun w' => NRow w' w.heap.size b L ∧ NRow w' (w.heap.size + 1) b M) (by kernel_rfl) (⟨r1, r2⟩) (fun hHeld => ?_)
  refine wpAnyH_take (i := 0) (v := .pointer (some ⟨w.heap.size, 0, none⟩)) rfl (by kernel_rfl) (by kernel_rfl) (by kernel_rfl) (fun _ _ _ h => h) (Or.inl ⟨rfl, fun w' hw' => ?_⟩) hHeld ?_
  · go_simp
  simp only [Act.put, List.setIfInBounds_toArray, List.set_cons_zero, List.set_cons_succ]
  refine wpAnyH_take (i := 1) (v := .bool b) rfl (by kernel_rfl) (by kernel_rfl) (by kernel_rfl) (fun _ _ _ h => h) (Or.inl ⟨rfl, fun w' hw' => ?_⟩) hHeld ?_
  · have hc := hw'.1.sign; go_simp
  simp only [Act.put, List.setIfInBounds_toArray, List.set_cons_zero, List.set_cons_succ]
  refine wpAnyH_take (i := 2) (v := .pointer (some ⟨w.heap.size, 1, none⟩)) rfl (by kernel_rfl) (by kernel_rfl) (by kernel_rfl) (fun _ _ _ h => h) (Or.inl ⟨rfl, fun w' hw' => ?_⟩) hHeld ?_
  · go_simp
  simp only [Act.put, List.setIfInBounds_toArray, List.set_cons_zero, List.set_cons_succ]
  refine wpAnyH_take (i := 3) rfl (by kernel_rfl) (by kernel_rfl) (by kernel_rfl) (fun _ _ _ h => h) (yieldsIf_load_mid (by rfl) _ _ rfl _ _ rfl _ _ (fun w' hw' => hw'.1.range) hu47 rfl hi1) hHeld ?_
  simp only [Act.put, List.setIfInBounds_toArray, List.set_cons_zero, List.set_cons_succ]
  refine wpAnyH_take (i := 4) (v := .pointer (some ⟨w.heap.size + 1, 1, none⟩)) rfl (by kernel_rfl) (by kernel_rfl) (by kernel_rfl) (fun _ _ _ h => h) (Or.inl ⟨rfl, fun w' hw' => ?_⟩) hHeld ?_
  · go_simp
  simp only [Act.put, List.setIfInBounds_toArray, List.set_cons_zero, List.set_cons_succ]
  refine wpAnyH_take (i := 5) rfl (by kernel_rfl) (by kernel_rfl) (by kernel_rfl) (fun _ _ _ h => h) (yieldsIf_load_mid (by rfl) _ _ rfl _ _ rfl _ _ (fun w' hw' => hw'.2.range) hu47 rfl hi2) hHeld ?_
  simp only [Act.put, List.setIfInBounds_toArray, List.set_cons_zero, List.set_cons_succ]
  refine wpAnyH_ready (rs := [6]) (by kernel_rfl) (by simp) ?_
  refine AllReadyH.cons rfl (fun K hK => ?_) AllReadyH.nil
  go_simp
  refine (sum_any L M hL hM sL sM n hn hu hv _).mono ?_
  rintro e w1 ⟨S, rfl, hS, sS, vS, b1⟩
  have q1 : NRow w1 w.heap.size b L := NRow.below (w := W.drew) r1 b1 hz1
  have q2 : NRow w1 (w.heap.size + 1) b M := NRow.below (w := W.drew) r2 b1 hz2
  have q3 : NRow w1 (w.heap.size + 1 + 1) false Z46 := NRow.below (w := W.drew) r3 b1 hz3
  refine hK.out _ _ ⟨q1, q2⟩ (fun hHeld => ?_)
  clear hK K
  refine wpAnyH_ready (rs := [7]) (by kernel_rfl) (by simp) ?_
  refine AllReadyH.cons rfl (fun K hK => ?_) AllReadyH.nil
  rw [if_pos (by rfl)]
  refine wp_build_to 49 _ rfl [(0, .bool b), (1, .agg (U S))] (by simp [Act.eval]) (Nm b S) (built_pair b S hS) ?_
  refine hK.out _ _ ⟨q1, q2⟩ (fun hHeld => ?_)
  clear hK K
  simp only [List.getElem_toArray, List.getElem_cons_succ, List.getElem_cons_zero, Act.put, List.setIfInBounds_toArray, List.set_cons_zero, List.set_cons_succ]
  refine wpAnyH_ready (rs := [8]) (by kernel_rfl) (by simp) ?_
  refine AllReadyH.cons rfl (fun K hK => ?_) AllReadyH.nil
  rw [if_pos (by rfl)]
  refine wp_store_row 49 _ _ rfl (w.heap.size + 1 + 1) (Nm b S) rfl rfl 49 _ q3 (by rw [Nm_size, hS]; exact info49) (by rw [Nm_size, Nm_size, hS]; rfl) (Nm_one b S) ?_
  refine hK.out _ _ ⟨q1.other _ (by omega), q2.other _ (by omega)⟩ (fun hHeld => ?_)
  clear hK K
  have A := q3.set b S
  have bb : Below w.heap.size w w1 := hb.trans ((Below.drew (Below.refl _ _)).trans (b1.mono (by show w.heap.size ≤ W.heap.size; omega)))
  have AC := below_setRow bb (w.heap.size + 1 + 1) (Nm b S) (by omega)
  generalize w1.setRow (w.heap.size + 1 + 1) (Nm b S) = W'' at A AC ⊢
  simp only [List.getElem_toArray, List.getElem_cons_succ, List.getElem_cons_zero, Act.put, List.setIfInBounds_toArray, List.set_cons_zero, List.set_cons_succ]
  refine wpAnyH_done (by kernel_rfl) ?_ _
  refine NoPanic.normal ?_
  clear q1 q2 q3 b1 hHeld r1 r2 r3 hb hz hz1 hz2 hz3 hi1 hi2 hu47
  go_wp2
  refine bodyPost_ret (results_cell_row rfl _ _ (w.heap.size + 1 + 1) 49 (Nm b S) (0, 0) _ rfl A Tryd.underlying49 rfl (by rw [Nm_size, hS]; exact info49)) rfl ?_
  exact ⟨S, rfl, hS, sS, vS, AC⟩
end Go.Proofs.YtebadokchhnmfaaDoor
