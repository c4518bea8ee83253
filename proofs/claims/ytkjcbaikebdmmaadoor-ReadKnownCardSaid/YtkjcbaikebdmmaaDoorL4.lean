/- Contracts of numeral, number, boolean. -/
import Derived.Test.YtkjcbaikebdmmaaDoorL3
namespace Go.Proofs.YtkjcbaikebdmmaaDoor
open Go.RowKit Go.BigM
set_option linter.unusedVariables false
set_option linter.unusedSimpArgs false

def dset : List UInt8 := [48, 49, 50, 51, 52, 53, 54, 55, 56, 57]
def sset : List UInt8 := [97, 98, 99, 100, 101, 102, 103, 104, 105, 106, 107, 108, 109, 110, 111, 112, 113, 114, 115, 116, 117, 118, 119, 120, 121, 122, 48, 49, 50, 51, 52, 53, 54, 55, 56, 57, 33, 63, 42, 60, 62, 61, 43, 45, 47, 46, 95]
/-- Digits, or the sign and digits. -/
def isNum (l : List UInt8) : Bool := decide (0 < (strip l).length) && (rowOf dset (strip l) == (strip l).length)
/-- A numeral's number's text. -/
def numOf (l : List UInt8) : List UInt8 := if (strip l).dropWhile (· == 48) = [] then [48] else if low l then 45 :: (strip l).dropWhile (· == 48) else (strip l).dropWhile (· == 48)

set_option maxRecDepth 100000 in
theorem numeral_any (s : ByteArray) (w : World) (hs : s.size ≤ 8000) :
    Calls Tryd.prog 47 #[.string s] w fun e w' => e = .returned (.bool (isNum s.data.toList)) ∧ w = w' := by
  obtain ⟨T, hT⟩ : ∃ T : ByteArray, T = ⟨(strip s.data.toList).toArray⟩ := ⟨_, rfl⟩
  have hTl : T.data.toList = strip s.data.toList := by rw [hT]
  have hTs : T.size = (strip s.data.toList).length := by rw [Lib.size_eq, hTl]
  have hTz : T.size ≤ 8000 := by have := strip_le s.data.toList; rw [Lib.size_eq] at hs; omega
  have FT := Lib.hid (fun w => hT ▸ trimPre_any s w hs)
  have FR := Lib.hid (fun w => row_any T ⟨dset.toArray⟩ w hTz)
  by_cases h0 : T.size = 0
  · have HE : Hid (isNum s.data.toList = false) := by show _ = _; unfold isNum; rw [← hTs, h0]; rfl
    have q1 : ¬ 0 < T.size := by omega
    clear hT hTl hTs
    go_enter Tryd.func47, Tryd.ntmps47
    go_wp2_with fail
    refine (FT.out _).mono ?_
    rintro e w' ⟨rfl, rfl⟩
    go_wp2_with fail
    go_ret
    exact ⟨by rw [HE.out]; rfl, rfl⟩
  · have HE : Hid (isNum s.data.toList = ((rowOf dset T.data.toList : Int) == (T.size : Int))) := by
      show _ = _
      unfold isNum
      rw [← hTs, decide_eq_true (show 0 < T.size by omega), Bool.true_and, ← hTl, Bool.eq_iff_iff, beq_iff_eq, beq_iff_eq]
      omega
    have q1 : 0 < T.size := by omega
    have e1 : (⟨dset.toArray⟩ : ByteArray).data.toList = dset := rfl
    rw [e1] at FR
    obtain ⟨rn, hrn⟩ : ∃ rn, rn = rowOf dset T.data.toList := ⟨_, rfl⟩
    rw [← hrn] at FR HE
    clear hT hTl hTs e1 hrn
    go_enter Tryd.func47, Tryd.ntmps47
    go_wp2_with fail
    refine (FT.out _).mono ?_
    rintro e w' ⟨rfl, rfl⟩
    go_wp2_with fail
    refine (FR.out _).mono ?_
    rintro e w' ⟨rfl, rfl⟩
    go_wp2_with fail
    go_ret
    exact ⟨by rw [HE.out]; rfl, rfl⟩

set_option maxRecDepth 100000 in
theorem number_any (s : ByteArray) (w : World) (hs : s.size ≤ 8000) (h0 : 0 < s.size) :
    Calls Tryd.prog 48 #[.string s] w fun e w' => e = .returned (.string ⟨(numOf s.data.toList).toArray⟩) ∧ w = w' := by
  obtain ⟨T, hT⟩ : ∃ T : ByteArray, T = ⟨(strip s.data.toList).toArray⟩ := ⟨_, rfl⟩
  have hTl : T.data.toList = strip s.data.toList := by rw [hT]
  have hTz : T.size ≤ 8000 := by have := strip_le s.data.toList; rw [Lib.size_eq] at hs; rw [Lib.size_eq, hTl]; omega
  obtain ⟨D, hD⟩ : ∃ D : ByteArray, D = ⟨(T.data.toList.dropWhile (· == 48)).toArray⟩ := ⟨_, rfl⟩
  have hDl : D.data.toList = (strip s.data.toList).dropWhile (· == 48) := by rw [hD, ← hTl]
  have hDz : D.size ≤ 8000 := by
    have h1 : D.size = (T.data.toList.dropWhile (· == 48)).length := by rw [hD]; simp [ByteArray.size]
    have h2 : (T.data.toList.dropWhile (· == 48)).length ≤ T.data.toList.length := (List.dropWhile_suffix _).length_le
    rw [← Lib.size_eq] at h2
    omega
  have FT := Lib.hid (fun w => hT ▸ trimPre_any s w hs)
  have FD := Lib.hid (fun w => hD ▸ trimLeft_any T w hTz)
  have hl0 : low s.data.toList = ((s[0].toNat : Int) == 45) := by
    have e1 := byte_eq s[0] 45
    unfold low
    rw [List.head?_eq_getElem?, List.getElem?_eq_getElem (by rw [← Lib.size_eq]; exact h0)]
    have e2 : s.data.toList[0]'(by rw [← Lib.size_eq]; exact h0) = s[0] := rfl
    rw [e2]
    have : ((s[0].toNat : Int) == 45) = (s[0] == 45) := e1
    rw [this, Bool.eq_iff_iff, beq_iff_eq, beq_iff_eq]
    simp
  by_cases hd : D.data.toList = []
  · have q0 : (D.toList == []) = true := by rw [Lib.toList_data, hd]; rfl
    have HE : Hid (numOf s.data.toList = [48]) := by show _ = _; unfold numOf; rw [if_pos (by rw [← hDl]; exact hd)]
    clear hT hTl hD hDl hl0 hd
    go_enter Tryd.func48, Tryd.ntmps48
    go_wp2_with fail
    refine (FT.out _).mono ?_
    rintro e w' ⟨rfl, rfl⟩
    go_wp2_with fail
    refine (FD.out _).mono ?_
    rintro e w' ⟨rfl, rfl⟩
    go_wp2_with fail
    go_ret
    exact ⟨by rw [HE.out]; rfl, rfl⟩
  · have q0 : (D.toList == []) = false := by rw [beq_eq_false_iff_ne, Lib.toList_data]; exact hd
    obtain ⟨b, hb⟩ : ∃ b, low s.data.toList = b := ⟨_, rfl⟩
    have q1 : ((s[0].toNat : Int) == 45) = b := by rw [← hl0, hb]
    cases b with
    | true =>
      have HE : Hid ((⟨(numOf s.data.toList).toArray⟩ : ByteArray) = ⟨#[45]⟩ ++ D) := by
        show _ = _
        unfold numOf
        rw [if_neg (by rw [← hDl]; exact hd), if_pos hb, ← hDl]
        apply ByteArray.ext
        apply Array.ext'
        simp [ByteArray.data_append]
      clear hT hTl hD hDl hl0 hd hb
      go_enter Tryd.func48, Tryd.ntmps48
      go_wp2_with fail
      refine (FT.out _).mono ?_
      rintro e w' ⟨rfl, rfl⟩
      go_wp2_with fail
      refine (FD.out _).mono ?_
      rintro e w' ⟨rfl, rfl⟩
      go_wp2_with fail
      go_ret
      exact ⟨by rw [HE.out]; rfl, rfl⟩
    | false =>
      have HE : Hid ((⟨(numOf s.data.toList).toArray⟩ : ByteArray) = D) := by
        show _ = _
        unfold numOf
        rw [if_neg (by rw [← hDl]; exact hd), if_neg (by rw [hb]; decide), ← hDl, Lib.mk_data]
      clear hT hTl hD hDl hl0 hd hb
      go_enter Tryd.func48, Tryd.ntmps48
      go_wp2_with fail
      refine (FT.out _).mono ?_
      rintro e w' ⟨rfl, rfl⟩
      go_wp2_with fail
      refine (FD.out _).mono ?_
      rintro e w' ⟨rfl, rfl⟩
      go_wp2_with fail
      go_ret
      exact ⟨by rw [HE.out]; rfl, rfl⟩
end Go.Proofs.YtkjcbaikebdmmaaDoor
