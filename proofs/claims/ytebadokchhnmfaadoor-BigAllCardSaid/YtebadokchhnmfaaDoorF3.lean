/- The contract of Mul. -/
import Derived.Test.YtebadokchhnmfaaDoorF1
import Derived.Test.YtebadokchhnmfaaDoorQ1
namespace Go.Proofs.YtebadokchhnmfaaDoor
open Go.RowKit Go.BigM
set_option linter.unusedVariables false
set_option linter.unusedSimpArgs false

theorem sgn_mul (b c : Bool) (v u : Nat) : sgn (b != c) (v * u) = sgn b v * sgn c u := by
  cases b <;> cases c <;> simp [sgn, Int.neg_mul, Int.mul_neg]

set_option maxHeartbeats 4000000 in
set_option maxRecDepth 100000 in
theorem mul_any (s t : ByteArray) (hs : Canon s.data.toList) (ht : Canon t.data.toList) (w : World) :
    Calls Tryd.prog 22 #[.string s, .string t] w (RetI w (ival s.data.toList * ival t.data.toList)) := by
  have hs' := canon_size s hs
  have ht' := canon_size t ht
  have hB := both_any s t hs ht
  obtain ⟨b, hb⟩ : ∃ b, b = low s.data.toList := ⟨_, rfl⟩
  obtain ⟨c, hc⟩ : ∃ c, c = low t.data.toList := ⟨_, rfl⟩
  obtain ⟨v, hv⟩ : ∃ v, v = dval (strip s.data.toList) := ⟨_, rfl⟩
  obtain ⟨u, hu⟩ : ∃ u, u = dval (strip t.data.toList) := ⟨_, rfl⟩
  have hx : ival s.data.toList = sgn b v := by unfold ival; rw [hb, hv]
  have hy : ival t.data.toList = sgn c u := by unfold ival; rw [hc, hu]
  have hvl : v < Lim := by rw [hv]; exact canon_lim _ hs
  have hul : u < Lim := by rw [hu]; exact canon_lim _ ht
  rw [← hb, ← hc, ← hv, ← hu] at hB
  rw [hx, hy]
  have HB := Lib.hid hB
  have HV := Lib.hid hvl
  have HUL := Lib.hid hul
  clear hB hb hc hv hu hx hy hvl hul hs ht hs' ht'
  go_enter Tryd.func22, Tryd.ntmps22
  go_wp2_with fail
  refine (HB.out w).mono ?_
  rintro e w1 ⟨L, M, rfl, hL, sL, vL, hM, sM, vM, b1⟩
  have K1 := Lib.hid hL
  have K2 := Lib.hid vL
  have K3 := Lib.hid hM
  have K4 := Lib.hid vM
  have B1 := Lib.hid b1
  clear hL vL hM vM b1
  simp only []
  iterate 18 go_step
  rw [Nm_zeros]
  obtain ⟨r1, r2, b2⟩ := two_nums w1 false Z46 false Z46
  have hz : w1.heap.size + 1 < ((w1.alloc (.cells (Nm false Z46) 49)).alloc (.cells (Nm false Z46) 49)).heap.size := by simp
  generalize (w1.alloc (.cells (Nm false Z46) 49)).alloc (.cells (Nm false Z46) 49) = W0 at r1 r2 b2 hz ⊢
  have hlt : w1.heap.size ≠ w1.heap.size + 1 := by omega
  go_wp2_with (first | (refine wpList_store_row rfl 49 _ _ rfl w1.heap.size (Nm b L) rfl rfl 49 _ r1 (by rw [Nm_size, K1.out]; exact info49) (by rw [Nm_size, Nm_size, K1.out]; rfl) (Nm_one b L) ?_) | (refine wpList_store_row rfl 49 _ _ rfl (w1.heap.size + 1) (Nm c M) rfl rfl 49 _ (r2.other _ (by omega)) (by rw [Nm_size, K3.out]; exact info49) (by rw [Nm_size, Nm_size, K3.out]; rfl) (Nm_one c M) ?_))
  have BW : Hid (Below w.heap.size w ((W0.setRow w1.heap.size (Nm b L)).setRow (w1.heap.size + 1) (Nm c M))) :=
    B1.out.trans ((below_setRow (below_setRow b2 _ _ (Nat.le_refl _)) _ _ (by omega)).mono B1.out.size)
  have k1 : NRow ((W0.setRow w1.heap.size (Nm b L)).setRow (w1.heap.size + 1) (Nm c M)) w1.heap.size b L := (r1.set b L).other _ hlt
  have k2 : NRow ((W0.setRow w1.heap.size (Nm b L)).setRow (w1.heap.size + 1) (Nm c M)) (w1.heap.size + 1) c M := (r2.other _ hlt.symm).set c M
  have hz' : w1.heap.size + 1 < ((W0.setRow w1.heap.size (Nm b L)).setRow (w1.heap.size + 1) (Nm c M)).heap.size := by simpa using hz
  generalize (W0.setRow w1.heap.size (Nm b L)).setRow (w1.heap.size + 1) (Nm c M) = W1 at BW k1 k2 hz' ⊢
  clear r1 r2 b2 hz hlt
  have hz2 : w1.heap.size + 1 < W1.drew.heap.size := hz'
  have hz1 : w1.heap.size < W1.drew.heap.size := by show _ < W1.heap.size; omega
  have hu47 := Tryd.underlying47
  have hi1 : (Tryd.prog.info? 47).map (·.size) = some (Uc L).length := by rw [Uc_len, K1.out]; exact info47
  have hi2 : (Tryd.prog.info? 47).map (·.size) = some (Uc M).length := by rw [Uc_len, K3.out]; exact info47
  refine wp_region_noPanic ?_
  refine wp_region_held_drew (S := fun w' => NRow w' w1.heap.size b L ∧ NRow w' (w1.heap.size + 1) c M) (by kernel_rfl) (⟨k1, k2⟩) (fun hHeld => ?_)
  refine wpAnyH_take (i := 0) (v := .pointer (some ⟨w1.heap.size, 0, none⟩)) rfl (by kernel_rfl) (by kernel_rfl) (by kernel_rfl) (fun _ _ _ h => h) (Or.inl ⟨rfl, fun w' hw' => ?_⟩) hHeld ?_
  · go_simp
  simp only [Act.put, List.setIfInBounds_toArray, List.set_cons_zero, List.set_cons_succ]
  refine wpAnyH_take (i := 1) (v := .bool b) rfl (by kernel_rfl) (by kernel_rfl) (by kernel_rfl) (fun _ _ _ h => h) (Or.inl ⟨rfl, fun w' hw' => ?_⟩) hHeld ?_
  · have hc := hw'.1.sign; go_simp
  simp only [Act.put, List.setIfInBounds_toArray, List.set_cons_zero, List.set_cons_succ]
  refine wpAnyH_take (i := 2) (v := .pointer (some ⟨w1.heap.size + 1, 0, none⟩)) rfl (by kernel_rfl) (by kernel_rfl) (by kernel_rfl) (fun _ _ _ h => h) (Or.inl ⟨rfl, fun w' hw' => ?_⟩) hHeld ?_
  · go_simp
  simp only [Act.put, List.setIfInBounds_toArray, List.set_cons_zero, List.set_cons_succ]
  refine wpAnyH_take (i := 3) (v := .bool c) rfl (by kernel_rfl) (by kernel_rfl) (by kernel_rfl) (fun _ _ _ h => h) (Or.inl ⟨rfl, fun w' hw' => ?_⟩) hHeld ?_
  · have hc := hw'.2.sign; go_simp
  simp only [Act.put, List.setIfInBounds_toArray, List.set_cons_zero, List.set_cons_succ]
  refine wpAnyH_take (i := 4) (v := .bool (b != c)) rfl (by kernel_rfl) (by kernel_rfl) (by kernel_rfl) (fun _ _ _ h => h) (Or.inl ⟨rfl, fun w' hw' => ?_⟩) hHeld ?_
  · go_simp; (cases b <;> cases c <;> rfl)
  simp only [Act.put, List.setIfInBounds_toArray, List.set_cons_zero, List.set_cons_succ]
  refine wpAnyH_take (i := 5) (v := .pointer (some ⟨w1.heap.size, 1, none⟩)) rfl (by kernel_rfl) (by kernel_rfl) (by kernel_rfl) (fun _ _ _ h => h) (Or.inl ⟨rfl, fun w' hw' => ?_⟩) hHeld ?_
  · go_simp
  simp only [Act.put, List.setIfInBounds_toArray, List.set_cons_zero, List.set_cons_succ]
  refine wpAnyH_take (i := 6) rfl (by kernel_rfl) (by kernel_rfl) (by kernel_rfl) (fun _ _ _ h => h) (yieldsIf_load_mid (by rfl) _ _ rfl _ _ rfl _ _ (fun w' hw' => hw'.1.range) hu47 rfl hi1) hHeld ?_
  simp only [Act.put, List.setIfInBounds_toArray, List.set_cons_zero, List.set_cons_succ]
  refine wpAnyH_take (i := 7) (v := .pointer (some ⟨w1.heap.size + 1, 1, none⟩)) rfl (by kernel_rfl) (by kernel_rfl) (by kernel_rfl) (fun _ _ _ h => h) (Or.inl ⟨rfl, fun w' hw' => ?_⟩) hHeld ?_
  · go_simp
  simp only [Act.put, List.setIfInBounds_toArray, List.set_cons_zero, List.set_cons_succ]
  refine wpAnyH_take (i := 8) rfl (by kernel_rfl) (by kernel_rfl) (by kernel_rfl) (fun _ _ _ h => h) (yieldsIf_load_mid (by rfl) _ _ rfl _ _ rfl _ _ (fun w' hw' => hw'.2.range) hu47 rfl hi2) hHeld ?_
  simp only [Act.put, List.setIfInBounds_toArray, List.set_cons_zero, List.set_cons_succ]
  refine wpAnyH_ready (rs := [9]) (by kernel_rfl) (by simp) ?_
  refine AllReadyH.cons rfl (fun K hK => ?_) AllReadyH.nil
  go_simp
  refine (product_any L M K1.out K3.out sL sM (lim_used L (by rw [K2.out]; exact HV.out)) (lim_used M (by rw [K4.out]; exact HUL.out)) _).mono ?_
  rintro e w2 ⟨S, rfl, hS, sS, vS, hb2⟩
  have q1 : NRow w2 w1.heap.size b L := NRow.below (w := W1.drew) k1 hb2 hz1
  have q2 : NRow w2 (w1.heap.size + 1) c M := NRow.below (w := W1.drew) k2 hb2 hz2
  have BX : Hid (Below w.heap.size w w2) := BW.out.trans ((Below.drew (Below.refl _ _)).trans (hb2.mono (by show w.heap.size ≤ W1.heap.size; exact BW.out.size)))
  have hz3 : w1.heap.size + 1 < w2.heap.size := Nat.lt_of_lt_of_le hz2 hb2.size
  rw [K2.out, K4.out] at vS
  have HZ : Hid (sgn (b != c) (lval S) = sgn b v * sgn c u) := by show _ = _; rw [vS, sgn_mul]
  refine hK.out _ _ ⟨q1, q2⟩ (fun hHeld => ?_)
  clear hK K
  refine wpAnyH_ready (rs := [10]) (by kernel_rfl) (by simp) ?_
  refine AllReadyH.cons rfl (fun K hK => ?_) AllReadyH.nil
  rw [if_pos (by rfl)]
  refine wp_build_to 49 _ rfl [(0, .bool (b != c)), (1, .agg (U S))] (by simp [Act.eval]) (Nm (b != c) S) (built_pair _ S hS) ?_
  refine hK.out _ _ ⟨q1, q2⟩ (fun hHeld => ?_)
  clear hK K
  simp only [List.getElem_toArray, List.getElem_cons_succ, List.getElem_cons_zero, Act.put, List.setIfInBounds_toArray, List.set_cons_zero, List.set_cons_succ]
  refine wpAnyH_ready (rs := [11]) (by kernel_rfl) (by simp) ?_
  refine AllReadyH.cons rfl (fun K hK => ?_) AllReadyH.nil
  go_simp
  refine (text_z (b != c) S hS sS _ HZ.out _).mono ?_
  rintro e w3 hI
  obtain ⟨T, hT⟩ : ∃ T : ByteArray, T = ⟨(txtI (sgn b v * sgn c u)).toArray⟩ := ⟨_, rfl⟩
  obtain ⟨k, hk⟩ : ∃ k : Bool, k = decide ((sgn b v * sgn c u).natAbs < Lim) := ⟨_, rfl⟩
  have HT := Lib.hid hT
  have HK := Lib.hid hk
  have he := hI.as T k hT hk
  have HI := Lib.hid hI.2
  clear hT hk hI
  subst he
  refine hK.out _ _ ⟨q1.below HI.out (by omega), q2.below HI.out hz3⟩ (fun hHeld => ?_)
  clear hK K
  refine wpAnyH_take (i := 12) (v := .string T) rfl (by kernel_rfl) (by kernel_rfl) (by kernel_rfl) (fun _ _ _ h => h) (Or.inl ⟨rfl, fun w' hw' => ?_⟩) hHeld ?_
  · go_simp
  simp only [List.getElem_toArray, List.getElem_cons_succ, List.getElem_cons_zero, Act.put, List.setIfInBounds_toArray, List.set_cons_zero, List.set_cons_succ]
  refine wpAnyH_take (i := 13) (v := .bool k) rfl (by kernel_rfl) (by kernel_rfl) (by kernel_rfl) (fun _ _ _ h => h) (Or.inl ⟨rfl, fun w' hw' => ?_⟩) hHeld ?_
  · go_simp
  simp only [List.getElem_toArray, List.getElem_cons_succ, List.getElem_cons_zero, Act.put, List.setIfInBounds_toArray, List.set_cons_zero, List.set_cons_succ]
  refine wpAnyH_take (i := 14) (v := .string T) rfl (by kernel_rfl) (by kernel_rfl) (by kernel_rfl) (fun _ _ _ h => h) (Or.inl ⟨rfl, fun w' hw' => ?_⟩) hHeld ?_
  · go_simp
  simp only [List.getElem_toArray, List.getElem_cons_succ, List.getElem_cons_zero, Act.put, List.setIfInBounds_toArray, List.set_cons_zero, List.set_cons_succ]
  refine wpAnyH_take (i := 15) (v := .bool k) rfl (by kernel_rfl) (by kernel_rfl) (by kernel_rfl) (fun _ _ _ h => h) (Or.inl ⟨rfl, fun w' hw' => ?_⟩) hHeld ?_
  · go_simp
  simp only [List.getElem_toArray, List.getElem_cons_succ, List.getElem_cons_zero, Act.put, List.setIfInBounds_toArray, List.set_cons_zero, List.set_cons_succ]
  refine wpAnyH_done (by kernel_rfl) ?_ _
  refine NoPanic.normal ?_
  clear q1 q2 hHeld hi1 hi2 hu47 k1 k2 hz1 hz2 hz3 hz' hb2 hS vS
  go_wp2
  go_ret2
  exact ⟨by rw [HT.out, HK.out]; rfl, BX.out.trans (HI.out.mono BX.out.size)⟩
end Go.Proofs.YtebadokchhnmfaaDoor
