/- The walk of BigOrder. -/
import Derived.Test.YtebadokchhnmfaaDoorU2
import Derived.Test.YtebadokchhnmfaaDoorK1
import Derived.Test.YtebadokchhnmfaaDoorF2
namespace Go.Proofs.YtebadokchhnmfaaDoor
open Go.RowKit Go.BigM
set_option linter.unusedVariables false

theorem cmp_r (s t : ByteArray) (hs : Canon s.data.toList) (ht : Canon t.data.toList) (r : Int) (hr : cmpI (ival s.data.toList) (ival t.data.toList) = r) (w : World) :
    Calls Tryd.prog 26 #[.string s, .string t] w (RetC w r) := by
  have := cmp_any s t hs ht w
  rw [hr] at this; exact this
/-- A text and a yes. -/
def RetS (w : World) (D : ByteArray) (k : Bool) (e : Ending) (w' : World) : Prop := e = .returned (.tuple #[.string D, .bool k]) ∧ Below w.heap.size w w'
theorem RetI.ret {w : World} {z : Int} {e : Ending} {w' : World} (D : ByteArray) (k : Bool) (h : RetI w z e w') (hD : D.data.toList = txtI z) (hk : decide (z.natAbs < Lim) = k) : RetS w D k e w' := by
  refine ⟨h.as D k ?_ hk.symm, h.2⟩
  rw [← hD, Lib.mk_data]
theorem sub_r (s t D : ByteArray) (hs : Canon s.data.toList) (ht : Canon t.data.toList) (hD : D.data.toList = txtI (ival s.data.toList - ival t.data.toList)) (hl : (ival s.data.toList - ival t.data.toList).natAbs < Lim) (w : World) :
    Calls Tryd.prog 20 #[.string s, .string t] w (RetS w D true) :=
  (sub_any s t hs ht w).mono fun _ _ h => RetI.ret D true h hD (decide_eq_true hl)
theorem add_r (s t D : ByteArray) (hs : Canon s.data.toList) (ht : Canon t.data.toList) (hD : D.data.toList = txtI (ival s.data.toList + ival t.data.toList)) (hl : (ival s.data.toList + ival t.data.toList).natAbs < Lim) (w : World) :
    Calls Tryd.prog 18 #[.string s, .string t] w (RetS w D true) :=
  (add_any s t hs ht w).mono fun _ _ h => RetI.ret D true h hD (decide_eq_true hl)

/-- A number of at most n digits. -/
theorem ival_lt (l : List UInt8) (h : Canon l) (n : Nat) (hn : (strip l).length ≤ n) : (ival l).natAbs < 10 ^ n := by
  unfold ival; rw [sgn_abs]
  exact Nat.lt_of_lt_of_le (dval_lt _ h.2.2.1) (Nat.pow_le_pow_right (by decide) hn)
theorem pow_Lim (n : Nat) (h : n ≤ 200) : 10 ^ n ≤ Lim := Nat.pow_le_pow_right (by decide) h
theorem eq_of_ival (s t : ByteArray) (hs : Canon s.data.toList) (ht : Canon t.data.toList) (h : ival s.data.toList = ival t.data.toList) : s = t := by
  have h1 := canon_txt _ hs
  have h2 := canon_txt _ ht
  rw [h] at h1
  have e : s.data.toList = t.data.toList := h1.symm.trans h2
  rw [← Lib.mk_data s, e, Lib.mk_data]

theorem txt_neg (z : Int) (h : z < 0) (hl : z.natAbs < Lim) : txtI z = 45 :: digs z.natAbs := by
  unfold txtI txt
  rw [if_neg (by omega), if_pos hl, decide_eq_true h, if_pos rfl]
theorem txt_pos (z : Int) (h : 0 < z) (hl : z.natAbs < Lim) : txtI z = digs z.natAbs := by
  unfold txtI txt
  rw [if_neg (by omega), if_pos hl, decide_eq_false (by omega), if_neg Bool.false_ne_true]
theorem neg_facts (z : Int) (h : z < 0) (hl : z.natAbs < Lim) (D : ByteArray) (hD : D.data.toList = txtI z) :
    D.toList.isEmpty = false ∧ (D.toList == [48]) = false ∧ ∃ h0 : 0 < D.size, (D[0]'h0).toNat = 45 := by
  rw [txt_neg z h hl] at hD
  have h0 : 0 < D.size := by rw [Lib.size_eq, hD]; simp
  refine ⟨by rw [Lib.toList_data, hD]; rfl, ?_, h0, ?_⟩
  · rw [Lib.toList_data, hD, beq_eq_false_iff_ne]; intro e; injection e with e _; exact absurd e (by decide)
  · have : D[0] = D.data.toList[0]'(by rw [hD]; simp) := rfl
    rw [this]; simp only [hD]; rfl
theorem pos_facts (z : Int) (h : 0 < z) (hl : z.natAbs < Lim) (D : ByteArray) (hD : D.data.toList = txtI z) :
    D.toList.isEmpty = false ∧ (D.toList == [48]) = false ∧ ∃ h0 : 0 < D.size, (D[0]'h0).toNat ≠ 45 := by
  rw [txt_pos z h hl] at hD
  have hne := digs_ne z.natAbs (by omega)
  have hlow := digs_low z.natAbs
  have hhd := digs_head z.natAbs
  cases hd : digs z.natAbs with
  | nil => exact absurd hd hne
  | cons a m =>
    rw [hd] at hD hlow hhd
    have h0 : 0 < D.size := by rw [Lib.size_eq, hD]; simp
    refine ⟨by rw [Lib.toList_data, hD]; rfl, ?_, h0, ?_⟩
    · rw [Lib.toList_data, hD, beq_eq_false_iff_ne]; intro e; injection e with e _; subst e; exact hhd rfl
    · have : D[0] = D.data.toList[0]'(by rw [hD]; simp) := rfl
      rw [this]; simp only [hD]
      intro e
      have ha : a = 45 := UInt8.toNat_inj.1 e
      subst ha
      simp [BigM.low] at hlow
end Go.Proofs.YtebadokchhnmfaaDoor
