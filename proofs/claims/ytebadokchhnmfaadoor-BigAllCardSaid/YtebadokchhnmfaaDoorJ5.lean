/- Quo by nought; Quo by the numbers that the texts are. -/
import Derived.Test.YtebadokchhnmfaaDoorJ4
import Derived.Test.YtebadokchhnmfaaDoorV0
namespace Go.Proofs.YtebadokchhnmfaaDoor
open Go.RowKit Go.BigM
set_option linter.unusedVariables false
set_option linter.unusedSimpArgs false

/-- Nothing is returned. -/
def RetQ0 (w : World) (e : Ending) (w' : World) : Prop := e = .returned (.tuple #[.string ⟨#[]⟩, .string ⟨#[]⟩, .bool false]) ∧ Below w.heap.size w w'

set_option maxHeartbeats 4000000 in
set_option maxRecDepth 100000 in
theorem quo_zero (s t : ByteArray) (hs : Canon s.data.toList) (ht : Canon t.data.toList) (hz0 : ival t.data.toList = 0) (w : World) :
    Calls Tryd.prog 24 #[.string s, .string t] w (RetQ0 w) := by
  have hs' := canon_size s hs
  have ht' := canon_size t ht
  have hB := both_any s t hs ht
  obtain ⟨b, hb⟩ : ∃ b, b = low s.data.toList := ⟨_, rfl⟩
  obtain ⟨c, hc⟩ : ∃ c, c = low t.data.toList := ⟨_, rfl⟩
  obtain ⟨v, hv⟩ : ∃ v, v = dval (strip s.data.toList) := ⟨_, rfl⟩
  obtain ⟨u, hu⟩ : ∃ u, u = dval (strip t.data.toList) := ⟨_, rfl⟩
  have hx : ival s.data.toList = sgn b v := by unfold ival; rw [hb, hv]
  have hy : ival t.data.toList = sgn c u := by unfold ival; rw [hc, hu]
  have hvl : v < Lim := by rw [hv]; exact canon_lim _ hs
  have hul : u < Lim := by rw [hu]; exact canon_lim _ ht
  rw [← hb, ← hc, ← hv, ← hu] at hB
  have hu0 : u = 0 := by
    have h := hz0; rw [hy] at h; cases c <;> simp [sgn] at h <;> exact h
  have HU0 := Lib.hid hu0
  clear hu0 hz0
  have HB := Lib.hid hB
  have HV := Lib.hid hvl
  have HUL := Lib.hid hul
  clear hB hb hc hv hu hx hy hvl hul hs ht hs' ht'
  go_enter Tryd.func24, Tryd.ntmps24
  go_wp2_with fail
  refine (HB.out w).mono ?_
  rintro e w1 ⟨L, M, rfl, hL, sL, vL, hM, sM, vM, b1⟩
  have K1 := Lib.hid hL
  have K2 := Lib.hid vL
  have K3 := Lib.hid hM
  have K4 := Lib.hid vM
  have B1 := Lib.hid b1
  clear hL vL hM vM b1
  simp only []
  iterate 18 go_step
  rw [Nm_zeros]
  obtain ⟨r1, r2, b2⟩ := two_nums w1 false Z46 false Z46
  have hz : w1.heap.size + 1 < ((w1.alloc (.cells (Nm false Z46) 49)).alloc (.cells (Nm false Z46) 49)).heap.size := by simp
  generalize (w1.alloc (.cells (Nm false Z46) 49)).alloc (.cells (Nm false Z46) 49) = W0 at r1 r2 b2 hz ⊢
  have hlt : w1.heap.size ≠ w1.heap.size + 1 := by omega
  have HE : ∀ w, (binOp .eql 47 (.agg (Uc M).toArray) (.agg (U Z46))).run Tryd.prog w = .ok (.bool true) w := fun w => by
    have := eql_limbs M Z46 K3.out Z46_len w
    refine this.trans ?_; congr 2
    rw [lval_inj M Z46 (by rw [K3.out, Z46_len]) sM Z46_small (by rw [K4.out, HU0.out, Z46_val])]; simp
  rw [← U_zeros] at HE
  have BW : Hid (Below w.heap.size w ((W0.setRow w1.heap.size (Nm b L)).setRow (w1.heap.size + 1) (Nm c M))) :=
    B1.out.trans ((below_setRow (below_setRow b2 _ _ (Nat.le_refl _)) _ _ (by omega)).mono B1.out.size)
  go_wp2_with (first | (refine wpList_store_row rfl 49 _ _ rfl w1.heap.size (Nm b L) rfl rfl 49 _ r1 (by rw [Nm_size, K1.out]; exact info49) (by rw [Nm_size, Nm_size, K1.out]; rfl) (Nm_one b L) ?_) | (refine wpList_store_row rfl 49 _ _ rfl (w1.heap.size + 1) (Nm c M) rfl rfl 49 _ (r2.other _ (by omega)) (by rw [Nm_size, K3.out]; exact info49) (by rw [Nm_size, Nm_size, K3.out]; rfl) (Nm_one c M) ?_) | (refine wpList_load_wanted (by rfl) 47 _ rfl (w1.heap.size + 1) 1 rfl (Uc M) _ (((r2.other _ hlt.symm).set c M).range) Tryd.underlying47 rfl (by rw [Uc_len, K3.out]; exact info47) ?_) | fail)
  go_ret3
  exact ⟨rfl, BW.out⟩

/-- Two texts and a yes. -/
def RetS2 (w : World) (D E : ByteArray) (e : Ending) (w' : World) : Prop := e = .returned (.tuple #[.string D, .string E, .bool true]) ∧ Below w.heap.size w w'
theorem quo_v {s t D E : ByteArray} {x y : Int} (hs : Is s x) (ht : Is t y) (hy : y ≠ 0) (hD : Is D (x.tdiv y)) (hE : Is E (x.tmod y)) (w : World) : Calls Tryd.prog 24 #[.string s, .string t] w (RetS2 w D E) := by
  refine (quo_any s t hs.1 ht.1 (by rw [ht.2.1]; exact hy) w).mono ?_
  rintro e w' ⟨he, hb⟩
  refine ⟨?_, hb⟩
  rw [he, hs.2.1, ht.2.1, ← hD.2.2, ← hE.2.2, Lib.mk_data, Lib.mk_data]
theorem quo_z {s t : ByteArray} {x : Int} (hs : Is s x) (ht : Is t 0) (w : World) : Calls Tryd.prog 24 #[.string s, .string t] w (RetQ0 w) := quo_zero s t hs.1 ht.1 ht.2.1 w
theorem Dg.tdiv {x y : Int} {n : Nat} (h : Dg x n) : Dg (x.tdiv y) n := by
  unfold Dg at *; rw [Int.natAbs_tdiv]; exact Nat.lt_of_le_of_lt (Nat.div_le_self _ _) h
theorem Dg.tmod {x y : Int} {n : Nat} (h : Dg x n) : Dg (x.tmod y) n := by
  unfold Dg at *; rw [Int.natAbs_tmod]; exact Nat.lt_of_le_of_lt (Nat.mod_le _ _) h
end Go.Proofs.YtebadokchhnmfaaDoor
