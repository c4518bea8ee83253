/- Contracts of Add, Sub, Cmp, of two numbers' texts. -/
import Derived.Test.YtebadokchhnmfaaDoorC1
import Derived.Test.YtebadokchhnmfaaDoorG2
namespace Go.Proofs.YtebadokchhnmfaaDoor
open Go.RowKit Go.BigM
set_option linter.unusedVariables false
set_option linter.unusedSimpArgs false

theorem old_get (w : World) (A B : Obj) : ((w.alloc A).alloc B).heap[w.heap.size]? = some A := by
  rw [Below.heap_alloc _ _ _ (by simp)]; exact alloc_get w A _ rfl
theorem old_get2 (w : World) (A B : Obj) (cs : Array Value) : (((w.alloc A).alloc B).setRow w.heap.size cs).heap[w.heap.size + 1]? = some B := by
  rw [setRow_other _ _ _ _ (by omega)]; exact alloc_get _ B _ (by simp)
theorem opened (w : World) (b : Bool) (L : List Nat) (c : Bool) (M : List Nat) :
    NRow ((((w.alloc (.cells (Nm false Z46) 49)).alloc (.cells (Nm false Z46) 49)).setRow w.heap.size (Nm b L)).setRow (w.heap.size + 1) (Nm c M)) w.heap.size b L ∧
    NRow ((((w.alloc (.cells (Nm false Z46) 49)).alloc (.cells (Nm false Z46) 49)).setRow w.heap.size (Nm b L)).setRow (w.heap.size + 1) (Nm c M)) (w.heap.size + 1) c M ∧
    Below w.heap.size w ((((w.alloc (.cells (Nm false Z46) 49)).alloc (.cells (Nm false Z46) 49)).setRow w.heap.size (Nm b L)).setRow (w.heap.size + 1) (Nm c M)) ∧
    w.heap.size + 1 < ((((w.alloc (.cells (Nm false Z46) 49)).alloc (.cells (Nm false Z46) 49)).setRow w.heap.size (Nm b L)).setRow (w.heap.size + 1) (Nm c M)).heap.size := by
  have h1 : NRow ((w.alloc (.cells (Nm false Z46) 49)).alloc (.cells (Nm false Z46) 49)) w.heap.size false Z46 := old_get _ _ _
  have h2 : NRow ((w.alloc (.cells (Nm false Z46) 49)).alloc (.cells (Nm false Z46) 49)) (w.heap.size + 1) false Z46 := alloc_get _ _ _ (by simp)
  exact ⟨(h1.set b L).other _ (by omega), (h2.other _ (by omega)).set c M,
    below_setRow (below_setRow (((Below.refl _ _).alloc (Nat.le_refl _) _).alloc (by simp) _) _ _ (Nat.le_refl _)) _ _ (by omega), by simp⟩

theorem canon_neg (l : List UInt8) (h : Canon l) (hb : low l = true) : dval (strip l) ≠ 0 := by
  intro h0
  have h1 := canon_txt l h
  unfold ival at h1
  rw [← txt_sgn, hb, h0] at h1
  have h2 : txt true 0 = [48] := rfl
  rw [h2] at h1
  rw [← h1] at hb
  exact absurd hb (by decide)
/-- The order of two numbers. -/
def cmpI (x y : Int) : Int := if x < y then -1 else if x = y then 0 else 1
theorem cmpB_is (b : Bool) (v : Nat) (c : Bool) (u : Nat) (h1 : b = true → v ≠ 0) (h2 : c = true → u ≠ 0) :
    cmpB b v c u = cmpI (sgn b v) (sgn c u) := by
  unfold cmpI cmpB sgn
  cases b <;> cases c <;> simp at h1 h2 ⊢ <;> (repeat' split) <;> omega
/-- It returns a number, of whatever sign and limbs, that is z. -/
def RetZ (w : World) (z : Int) (e : Ending) (w' : World) : Prop :=
  ∃ b L, e = .returned (.agg (Nm b L)) ∧ L.length = 46 ∧ Small L ∧ sgn b (lval L) = z ∧ Below w.heap.size w w'
theorem lim_used (L : List Nat) (h : lval L < Lim) : usedOf L ≤ 23 :=
  used_of_lt L 23 (Nat.lt_of_lt_of_le h (by rw [B_pow]; unfold Lim; exact Nat.pow_le_pow_right (by decide) (by decide)))
theorem plus_any (b c : Bool) (L M : List Nat) (hL : L.length = 46) (hM : M.length = 46) (sL : Small L) (sM : Small M) (lL : lval L < Lim) (lM : lval M < Lim) (w : World) :
    Calls Tryd.prog 31 #[.agg (Nm b L), .agg (Nm c M)] w (RetZ w (sgn b (lval L) + sgn c (lval M))) := by
  by_cases hbc : (b == c) = true
  · obtain rfl : b = c := by simpa using hbc
    refine (plus_same b L M hL hM sL sM 45 (Nat.le_refl _) (Nat.le_trans (lim_used L lL) (by decide)) (Nat.le_trans (lim_used M lM) (by decide)) w).mono ?_
    rintro e w' ⟨S, he, hS, sS, vS, hb⟩
    exact ⟨b, S, he, hS, sS, by rw [vS]; unfold sgn; split <;> omega, hb⟩
  · have hbc' : (b == c) = false := by simpa using hbc
    by_cases hlt : lval L < lval M
    · refine (plus_lt b c hbc' L M hL hM sL sM hlt w).mono ?_
      rintro e w' ⟨S, he, hS, sS, vS, hb⟩
      refine ⟨c, S, he, hS, sS, ?_, hb⟩
      rw [vS]; cases b <;> cases c <;> simp_all [sgn] <;> omega
    · refine (plus_ge b c hbc' L M hL hM sL sM (by omega) w).mono ?_
      rintro e w' ⟨S, he, hS, sS, vS, hb⟩
      refine ⟨b, S, he, hS, sS, ?_, hb⟩
      rw [vS]; cases b <;> cases c <;> simp_all [sgn] <;> omega
/-- The text of z, and whether there is one. -/
def RetI (w : World) (z : Int) (e : Ending) (w' : World) : Prop :=
  e = .returned (.tuple #[.string ⟨(txtI z).toArray⟩, .bool (decide (z.natAbs < Lim))]) ∧ Below w.heap.size w w'
theorem text_z (b : Bool) (L : List Nat) (hL : L.length = 46) (sL : Small L) (z : Int) (hz : sgn b (lval L) = z) (w : World) : Calls Tryd.prog 32 #[.agg (Nm b L)] w (RetI w z) := by
  refine (text_any b L hL sL w).mono ?_
  rintro e w' ⟨he, hb⟩
  refine ⟨?_, hb⟩
  rw [he, txt_sgn, hz, ← hz, sgn_abs]
theorem RetI.as {w : World} {z : Int} {e : Ending} {w' : World} (h : RetI w z e w') (t : ByteArray) (k : Bool) (ht : t = ⟨(txtI z).toArray⟩) (hk : k = decide (z.natAbs < Lim)) : e = .returned (.tuple #[.string t, .bool k]) := by
  rw [ht, hk]; exact h.1

set_option maxHeartbeats 2000000 in
set_option maxRecDepth 100000 in
theorem add_any (s t : ByteArray) (hs : Canon s.data.toList) (ht : Canon t.data.toList) (w : World) :
    Calls Tryd.prog 18 #[.string s, .string t] w (RetI w (ival s.data.toList + ival t.data.toList)) := by
  have hs' := canon_size s hs
  have ht' := canon_size t ht
  have hB := both_any s t hs ht
  obtain ⟨b, hb⟩ : ∃ b, b = low s.data.toList := ⟨_, rfl⟩
  obtain ⟨c, hc⟩ : ∃ c, c = low t.data.toList := ⟨_, rfl⟩
  obtain ⟨v, hv⟩ : ∃ v, v = dval (strip s.data.toList) := ⟨_, rfl⟩
  obtain ⟨u, hu⟩ : ∃ u, u = dval (strip t.data.toList) := ⟨_, rfl⟩
  have hx : ival s.data.toList = sgn b v := by unfold ival; rw [hb, hv]
  have hy : ival t.data.toList = sgn c u := by unfold ival; rw [hc, hu]
  have hvl : v < Lim := by rw [hv]; exact canon_lim _ hs
  have hul : u < Lim := by rw [hu]; exact canon_lim _ ht
  rw [← hb, ← hc, ← hv, ← hu] at hB
  rw [hx, hy]
  have HB := Lib.hid hB
  have HV := Lib.hid hvl
  have HUL := Lib.hid hul
  clear hB hb hc hv hu hx hy hvl hul hs ht hs' ht'
  go_enter Tryd.func18, Tryd.ntmps18
  go_wp2_with fail
  refine (HB.out w).mono ?_
  rintro e w1 ⟨L, M, rfl, hL, sL, vL, hM, sM, vM, b1⟩
  have K1 := Lib.hid hL
  have K2 := Lib.hid vL
  have K3 := Lib.hid hM
  have K4 := Lib.hid vM
  have B1 := Lib.hid b1
  clear hL vL hM vM b1
  simp only []
  iterate 18 go_step
  rw [Nm_zeros]
  obtain ⟨r1, r2, b2⟩ := two_nums w1 false Z46 false Z46
  have hz : w1.heap.size + 1 < ((w1.alloc (.cells (Nm false Z46) 49)).alloc (.cells (Nm false Z46) 49)).heap.size := by simp
  generalize (w1.alloc (.cells (Nm false Z46) 49)).alloc (.cells (Nm false Z46) 49) = W0 at r1 r2 b2 hz ⊢
  have hlt : w1.heap.size ≠ w1.heap.size + 1 := by omega
  go_wp2_with (first | (refine wpList_store_row rfl 49 _ _ rfl w1.heap.size (Nm b L) rfl rfl 49 _ r1 (by rw [Nm_size, K1.out]; exact info49) (by rw [Nm_size, Nm_size, K1.out]; rfl) (Nm_one b L) ?_) | (refine wpList_store_row rfl 49 _ _ rfl (w1.heap.size + 1) (Nm c M) rfl rfl 49 _ (r2.other _ (by omega)) (by rw [Nm_size, K3.out]; exact info49) (by rw [Nm_size, Nm_size, K3.out]; rfl) (Nm_one c M) ?_) | (refine wpList_load_row rfl 49 _ rfl w1.heap.size rfl 49 (Nm b L) (0, 0) _ ((r1.set b L).other _ hlt) Tryd.underlying49 rfl (by rw [Nm_size, K1.out]; exact info49) ?_) | (refine wpList_load_row rfl 49 _ rfl (w1.heap.size + 1) rfl 49 (Nm c M) (0, 0) _ ((r2.other _ hlt.symm).set c M) Tryd.underlying49 rfl (by rw [Nm_size, K3.out]; exact info49) ?_))
  have BW : Hid (Below w.heap.size w ((W0.setRow w1.heap.size (Nm b L)).setRow (w1.heap.size + 1) (Nm c M))) :=
    B1.out.trans ((below_setRow (below_setRow b2 _ _ (Nat.le_refl _)) _ _ (by omega)).mono B1.out.size)
  generalize (W0.setRow w1.heap.size (Nm b L)).setRow (w1.heap.size + 1) (Nm c M) = W1 at BW ⊢
  clear r1 r2 b2 hz hlt
  refine (plus_any b c L M K1.out K3.out sL sM (by rw [K2.out]; exact HV.out) (by rw [K4.out]; exact HUL.out) _).mono ?_
  rintro e w2 ⟨b', S, rfl, hS, sS, hz', hb2⟩
  rw [K2.out, K4.out] at hz'
  have HS := Lib.hid hS
  have HZ := Lib.hid hz'
  have BX : Hid (Below w.heap.size w w2) := BW.out.trans (hb2.mono BW.out.size)
  clear hS hz' hb2
  go_wp2_with fail
  refine (text_z b' S HS.out sS _ HZ.out _).mono ?_
  rintro e w3 hI
  obtain ⟨T, hT⟩ : ∃ T : ByteArray, T = ⟨(txtI (sgn b v + sgn c u)).toArray⟩ := ⟨_, rfl⟩
  obtain ⟨k, hk⟩ : ∃ k : Bool, k = decide ((sgn b v + sgn c u).natAbs < Lim) := ⟨_, rfl⟩
  have HT := Lib.hid hT
  have HK := Lib.hid hk
  have he := hI.as T k hT hk
  have HI := Lib.hid hI.2
  clear hT hk hI
  subst he
  go_wp2
  go_ret2
  exact ⟨by rw [HT.out, HK.out]; rfl, BX.out.trans (HI.out.mono BX.out.size)⟩

set_option maxHeartbeats 2000000 in
set_option maxRecDepth 100000 in
theorem cmp_any (s t : ByteArray) (hs : Canon s.data.toList) (ht : Canon t.data.toList) (w : World) :
    Calls Tryd.prog 26 #[.string s, .string t] w (RetC w (cmpI (ival s.data.toList) (ival t.data.toList))) := by
  have hneg : low s.data.toList = true → dval (strip s.data.toList) ≠ 0 := canon_neg _ hs
  have hneg' : low t.data.toList = true → dval (strip t.data.toList) ≠ 0 := canon_neg _ ht
  have HN := Lib.hid (show cmpB (low s.data.toList) (dval (strip s.data.toList)) (low t.data.toList) (dval (strip t.data.toList)) = cmpI (ival s.data.toList) (ival t.data.toList) from cmpB_is _ _ _ _ hneg hneg')
  clear hneg hneg'
  have hs' := canon_size s hs
  have ht' := canon_size t ht
  have hB := both_any s t hs ht
  obtain ⟨b, hb⟩ : ∃ b, b = low s.data.toList := ⟨_, rfl⟩
  obtain ⟨c, hc⟩ : ∃ c, c = low t.data.toList := ⟨_, rfl⟩
  obtain ⟨v, hv⟩ : ∃ v, v = dval (strip s.data.toList) := ⟨_, rfl⟩
  obtain ⟨u, hu⟩ : ∃ u, u = dval (strip t.data.toList) := ⟨_, rfl⟩
  have hx : ival s.data.toList = sgn b v := by unfold ival; rw [hb, hv]
  have hy : ival t.data.toList = sgn c u := by unfold ival; rw [hc, hu]
  have hvl : v < Lim := by rw [hv]; exact canon_lim _ hs
  have hul : u < Lim := by rw [hu]; exact canon_lim _ ht
  rw [← hb, ← hc, ← hv, ← hu] at hB
  rw [hx, hy]
  rw [hx, hy, ← hb, ← hc, ← hv, ← hu] at HN
  have HB := Lib.hid hB
  have HV := Lib.hid hvl
  have HUL := Lib.hid hul
  clear hB hb hc hv hu hx hy hvl hul hs ht hs' ht'
  go_enter Tryd.func26, Tryd.ntmps26
  go_wp2_with fail
  refine (HB.out w).mono ?_
  rintro e w1 ⟨L, M, rfl, hL, sL, vL, hM, sM, vM, b1⟩
  have K1 := Lib.hid hL
  have K2 := Lib.hid vL
  have K3 := Lib.hid hM
  have K4 := Lib.hid vM
  have B1 := Lib.hid b1
  clear hL vL hM vM b1
  simp only []
  iterate 18 go_step
  rw [Nm_zeros]
  obtain ⟨r1, r2, b2⟩ := two_nums w1 false Z46 false Z46
  have hz : w1.heap.size + 1 < ((w1.alloc (.cells (Nm false Z46) 49)).alloc (.cells (Nm false Z46) 49)).heap.size := by simp
  generalize (w1.alloc (.cells (Nm false Z46) 49)).alloc (.cells (Nm false Z46) 49) = W0 at r1 r2 b2 hz ⊢
  have hlt : w1.heap.size ≠ w1.heap.size + 1 := by omega
  go_wp2_with (first | (refine wpList_store_row rfl 49 _ _ rfl w1.heap.size (Nm b L) rfl rfl 49 _ r1 (by rw [Nm_size, K1.out]; exact info49) (by rw [Nm_size, Nm_size, K1.out]; rfl) (Nm_one b L) ?_) | (refine wpList_store_row rfl 49 _ _ rfl (w1.heap.size + 1) (Nm c M) rfl rfl 49 _ (r2.other _ (by omega)) (by rw [Nm_size, K3.out]; exact info49) (by rw [Nm_size, Nm_size, K3.out]; rfl) (Nm_one c M) ?_) | (refine wpList_load_row rfl 49 _ rfl w1.heap.size rfl 49 (Nm b L) (0, 0) _ ((r1.set b L).other _ hlt) Tryd.underlying49 rfl (by rw [Nm_size, K1.out]; exact info49) ?_) | (refine wpList_load_row rfl 49 _ rfl (w1.heap.size + 1) rfl 49 (Nm c M) (0, 0) _ ((r2.other _ hlt.symm).set c M) Tryd.underlying49 rfl (by rw [Nm_size, K3.out]; exact info49) ?_))
  have BW : Hid (Below w.heap.size w ((W0.setRow w1.heap.size (Nm b L)).setRow (w1.heap.size + 1) (Nm c M))) :=
    B1.out.trans ((below_setRow (below_setRow b2 _ _ (Nat.le_refl _)) _ _ (by omega)).mono B1.out.size)
  generalize (W0.setRow w1.heap.size (Nm b L)).setRow (w1.heap.size + 1) (Nm c M) = W1 at BW ⊢
  clear r1 r2 b2 hz hlt
  refine (compare_any b c L M K1.out K3.out sL sM _).mono ?_
  rintro e w2 ⟨rfl, hb2⟩
  have BX : Hid (Below w.heap.size w w2) := BW.out.trans (hb2.mono BW.out.size)
  rw [K2.out, K4.out]
  obtain ⟨r, hr⟩ : ∃ r, r = cmpB b v c u := ⟨_, rfl⟩
  rw [← hr]
  have HR := Lib.hid hr
  clear hb2 hr
  go_wp2
  go_ret
  exact ⟨ret_int (by rw [HR.out]; exact HN.out), BX.out⟩
end Go.Proofs.YtebadokchhnmfaaDoor
