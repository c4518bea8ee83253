/- The contract of Sub. -/
import Derived.Test.YtebadokchhnmfaaDoorF1
namespace Go.Proofs.YtebadokchhnmfaaDoor
open Go.RowKit Go.BigM
set_option linter.unusedVariables false
set_option linter.unusedSimpArgs false

theorem sgn_not (c : Bool) (u : Nat) : sgn (!c) u = - sgn c u := by cases c <;> simp [sgn]

set_option maxHeartbeats 2000000 in
set_option maxRecDepth 100000 in
theorem sub_any (s t : ByteArray) (hs : Canon s.data.toList) (ht : Canon t.data.toList) (w : World) :
    Calls Tryd.prog 20 #[.string s, .string t] w (RetI w (ival s.data.toList - ival t.data.toList)) := by
  have hs' := canon_size s hs
  have ht' := canon_size t ht
  have hB := both_any s t hs ht
  obtain ⟨b, hb⟩ : ∃ b, b = low s.data.toList := ⟨_, rfl⟩
  obtain ⟨c, hc⟩ : ∃ c, c = low t.data.toList := ⟨_, rfl⟩
  obtain ⟨v, hv⟩ : ∃ v, v = dval (strip s.data.toList) := ⟨_, rfl⟩
  obtain ⟨u, hu⟩ : ∃ u, u = dval (strip t.data.toList) := ⟨_, rfl⟩
  have hx : ival s.data.toList = sgn b v := by unfold ival; rw [hb, hv]
  have hy : ival t.data.toList = sgn c u := by unfold ival; rw [hc, hu]
  have hvl : v < Lim := by rw [hv]; exact canon_lim _ hs
  have hul : u < Lim := by rw [hu]; exact canon_lim _ ht
  rw [← hb, ← hc, ← hv, ← hu] at hB
  rw [hx, hy]
  have HB := Lib.hid hB
  have HV := Lib.hid hvl
  have HUL := Lib.hid hul
  clear hB hb hc hv hu hx hy hvl hul hs ht hs' ht'
  go_enter Tryd.func20, Tryd.ntmps20
  go_wp2_with fail
  refine (HB.out w).mono ?_
  rintro e w1 ⟨L, M, rfl, hL, sL, vL, hM, sM, vM, b1⟩
  have K1 := Lib.hid hL
  have K2 := Lib.hid vL
  have K3 := Lib.hid hM
  have K4 := Lib.hid vM
  have B1 := Lib.hid b1
  clear hL vL hM vM b1
  simp only []
  iterate 18 go_step
  rw [Nm_zeros]
  obtain ⟨r1, r2, b2⟩ := two_nums w1 false Z46 false Z46
  have hz : w1.heap.size + 1 < ((w1.alloc (.cells (Nm false Z46) 49)).alloc (.cells (Nm false Z46) 49)).heap.size := by simp
  generalize (w1.alloc (.cells (Nm false Z46) 49)).alloc (.cells (Nm false Z46) 49) = W0 at r1 r2 b2 hz ⊢
  have hlt : w1.heap.size ≠ w1.heap.size + 1 := by omega
  have hs2 : ((W0.setRow w1.heap.size (Nm b L)).setRow (w1.heap.size + 1) (Nm c M)).cell? ⟨w1.heap.size + 1, 0, none⟩ = some (.bool c) := ((r2.other _ hlt.symm).set c M).sign
  go_wp2_with (first | (refine wpList_store_row rfl 49 _ _ rfl w1.heap.size (Nm b L) rfl rfl 49 _ r1 (by rw [Nm_size, K1.out]; exact info49) (by rw [Nm_size, Nm_size, K1.out]; rfl) (Nm_one b L) ?_) | (refine wpList_store_row rfl 49 _ _ rfl (w1.heap.size + 1) (Nm c M) rfl rfl 49 _ (r2.other _ (by omega)) (by rw [Nm_size, K3.out]; exact info49) (by rw [Nm_size, Nm_size, K3.out]; rfl) (Nm_one c M) ?_) | (refine wpList_load_row rfl 49 _ rfl w1.heap.size rfl 49 (Nm b L) (0, 0) _ ((r1.set b L).other _ hlt) Tryd.underlying49 rfl (by rw [Nm_size, K1.out]; exact info49) ?_) | (refine wpList_load_mid rfl 47 _ rfl (w1.heap.size + 1) 1 rfl (Uc M) _ (((r2.other _ hlt.symm).set c M).range) Tryd.underlying47 rfl (by rw [Uc_len, K3.out]; exact info47) ?_) | (refine wpList_build_to rfl 49 _ rfl [(0, .bool (!c)), (1, .agg (U M))] (by simp [Act.eval, Act.put, U_eq]) (Nm (!c) M) (built_pair (!c) M K3.out) ?_))
  have BW : Hid (Below w.heap.size w ((W0.setRow w1.heap.size (Nm b L)).setRow (w1.heap.size + 1) (Nm c M))) :=
    B1.out.trans ((below_setRow (below_setRow b2 _ _ (Nat.le_refl _)) _ _ (by omega)).mono B1.out.size)
  clear hs2
  generalize (W0.setRow w1.heap.size (Nm b L)).setRow (w1.heap.size + 1) (Nm c M) = W1 at BW ⊢
  clear r1 r2 b2 hz hlt
  refine (plus_any b (!c) L M K1.out K3.out sL sM (by rw [K2.out]; exact HV.out) (by rw [K4.out]; exact HUL.out) _).mono ?_
  rintro e w2 ⟨b', S, rfl, hS, sS, hz', hb2⟩
  rw [K2.out, K4.out, sgn_not, ← Int.sub_eq_add_neg] at hz'
  have HS := Lib.hid hS
  have HZ := Lib.hid hz'
  have BX : Hid (Below w.heap.size w w2) := BW.out.trans (hb2.mono BW.out.size)
  clear hS hz' hb2
  go_wp2_with fail
  refine (text_z b' S HS.out sS _ HZ.out _).mono ?_
  rintro e w3 hI
  obtain ⟨T, hT⟩ : ∃ T : ByteArray, T = ⟨(txtI (sgn b v - sgn c u)).toArray⟩ := ⟨_, rfl⟩
  obtain ⟨k, hk⟩ : ∃ k : Bool, k = decide ((sgn b v - sgn c u).natAbs < Lim) := ⟨_, rfl⟩
  have HT := Lib.hid hT
  have HK := Lib.hid hk
  have he := hI.as T k hT hk
  have HI := Lib.hid hI.2
  clear hT hk hI
  subst he
  go_wp2
  go_ret2
  exact ⟨by rw [HT.out, HK.out]; rfl, BX.out.trans (HI.out.mono BX.out.size)⟩
end Go.Proofs.YtebadokchhnmfaaDoor
