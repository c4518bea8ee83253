/- The document's reader: numbers. -/
import Derived.Test.YtecljchifebljaaYAC
import Derived.Test.YtecljchifebljaaYAA
set_option linter.unusedVariables false
set_option linter.unusedSimpArgs false
namespace Go.Proofs.Ytecljchifebljaa
open Go.RowKit Go.BigM
theorem ext_list (s : ByteArray) : (s.extract 1 s.size).data.toList = s.data.toList.tail := by
 rw [ByteArray.data_extract, Array.toList_extract]
 rw [List.extract_eq_take_drop, List.drop_one, List.take_of_length_le (by rw [List.length_tail, ← Lib.size_eq]; exact Nat.le_refl _)]
theorem dig_in (c : UInt8) : dset.contains c = (decide (48 ≤ c.toNat) && decide (c.toNat ≤ 57)) := by
 have key : ∀ c : UInt8, dset.contains c = (decide (48 ≤ c.toNat) && decide (c.toNat ≤ 57)) := u8_all (by decide +kernel)
 exact key c
/-- The row of digits, without noughts ahead. -/
def nought (l : List UInt8) : List UInt8 := if l.dropWhile (· == 48) = [] then [48] else l.dropWhile (· == 48)
theorem nought_cut (c : UInt8) (l : List UInt8) (h : c = 48) : nought (c :: l) = nought l := by
 subst h; unfold nought; rw [List.dropWhile_cons]; simp
theorem nought_end (l : List UInt8) (h0 : l ≠ []) (h : l.length = 1 ∨ l.head? ≠ some 48) : nought l = l := by
 unfold nought
 cases l with
 | nil => exact absurd rfl h0
 | cons c r =>
  by_cases hc : c = 48
  ·subst hc
   rcases h with h | h
   ·have hr : r = [] := by simpa using h
    subst hr
    simp [List.dropWhile]
   ·exact absurd rfl h
  ·have h2 : (c == 48) = false := by simpa using hc
   rw [List.dropWhile_cons, h2]
   simp
theorem numOf_is (l : List UInt8) : numOf l = if low l && !(nought (strip l) == [48]) then 45 :: nought (strip l) else nought (strip l) := by
 unfold numOf nought
 by_cases h : (strip l).dropWhile (· == 48) = []
 ·simp [h]
 ·simp only [h, if_false]
  have hh : (strip l).dropWhile (· == 48) ≠ [48] := by
   intro e
   have h2 := List.head_dropWhile_not (p := (· == (48 : UInt8))) (l := strip l) (by simpa using h)
   simp [e] at h2
  have h3 : ((strip l).dropWhile (· == 48) == [48]) = false := by simpa using hh
  cases low l <;> simp [h3]
theorem isNum_no (l : List UInt8) (j : Nat) (h : j < (strip l).length) (hd : dset.contains (strip l)[j] = false) : isNum l = false := by
 unfold isNum
 have h2 : rowOf dset (strip l) ≠ (strip l).length := by
  intro e
  unfold rowOf at e
  have h3 : (strip l).takeWhile dset.contains = strip l := (List.takeWhile_prefix _).eq_of_length e
  have h5 : ((strip l).takeWhile dset.contains).all dset.contains = true := List.all_takeWhile
  rw [h3] at h5
  have h4 := List.all_eq_true.1 h5 _ (List.getElem_mem h)
  rw [hd] at h4; cases h4
 have h3 : (rowOf dset (strip l) == (strip l).length) = false := by simpa using h2
 rw [h3, Bool.and_false]
theorem isNum_yes (l : List UInt8) (h0 : 0 < (strip l).length) (h : ∀ j (hj : j < (strip l).length), dset.contains (strip l)[j] = true) : isNum l = true := by
 unfold isNum
 have h2 : rowOf dset (strip l) = (strip l).length := rowOf_end dset _ _ (Nat.le_refl _) (fun i hi _ => h i hi) (fun hh => absurd hh (by omega))
 simp [h0, h2]
def RetNum (l : List UInt8) (w : World) (e : Ending) (w' : World) : Prop := e = .returned (.tuple #[.string (if isNum l then ⟨(numOf l).toArray⟩ else ⟨#[]⟩), .bool (isNum l)]) ∧ w = w'
def NmInv (T : ByteArray) (w : World) (iv : Value) (wr : World) : Prop := ∃ i : Nat, i ≤ T.size ∧ iv = .int .i64 (i : Int) ∧ (∀ k (h : k < T.size), k < i → dset.contains T[k] = true) ∧ wr = w
def NdInv (T : ByteArray) (w : World) (dv : Value) (wr : World) : Prop := ∃ d : ByteArray, dv = .string d ∧ 0 < d.size ∧ d.size ≤ 9000 ∧ nought d.data.toList = nought T.data.toList ∧ wr = w
def lenOf (v : Value) : Nat := match v with | .string s => s.size | _ => 0
theorem u8_eq (c : UInt8) (v : Nat) (h : c.toNat = v) : c = UInt8.ofNat v := by rw [← h]; simp
theorem d_cons (d : ByteArray) (h : 0 < d.size) : d.data.toList = d[0] :: d.data.toList.tail := by
 have hl : 0 < d.data.toList.length := by rw [← Lib.size_eq]; exact h
 have h2 := List.drop_eq_getElem_cons (l := d.data.toList) hl
 rw [List.drop_zero] at h2
 rw [← List.drop_one]
 exact h2
set_option maxHeartbeats 16000000 in
set_option maxRecDepth 100000 in
theorem number3_any (s : ByteArray) (w : World) (h0 : 0 < s.size) (hs : s.size ≤ 9000) : Calls Try.prog 96 #[.string s] w (RetNum s.data.toList w) := by
 have hhd : s.data.toList.head? = some s[0] := by rw [d_cons s h0]; rfl
 by_cases h45 : (s[0]'h0).toNat = 45
 ·have E45 : ((((s[0]'h0).toNat : Int)) == 45) = true := by simpa using (show ((s[0]'h0).toNat : Int) = 45 by omega)
  have hlow : low s.data.toList = true := by unfold low; rw [hhd, u8_eq _ 45 h45]; rfl
  obtain ⟨T, hT⟩ : ∃ T : ByteArray, T = s.extract 1 s.size := ⟨_, rfl⟩
  have hTl : T.data.toList = strip s.data.toList := by rw [hT, ext_list, strip_low _ hlow]
  have hTz : T.size ≤ 9000 := by rw [hT]; simp; omega
  have HLO := Lib.hid hlow
  have HTL := Lib.hid hTl
  clear hhd h45 hlow hTl
  go_enter Try.func96, Try.ntmps96
  go_upto_region 4 with fail
  simp only [← hT]
  clear hT
  have hT0 : 0 < T.size ∨ T.size = 0 := by omega
  rcases hT0 with hT0 | hT0
  ·have e1 : T.toList.isEmpty = false := by
    rw [Lib.toList_data, d_cons T hT0]; rfl
   go_wp2_with fail
   go_loopw [5] (fun iv wr => NmInv T w iv wr) (fun iv _ => T.size - (intOf iv).toNat)
   case atStart => exact ⟨0, Nat.zero_le _, rfl, fun k _ hk => absurd hk (by omega), rfl⟩
   case round =>
    obtain ⟨i, hi, rfl, hin, rfl⟩ := hrel
    have HIN := Lib.hid hin
    clear hin
    by_cases hlt : i < T.size
    ·have q1 : decide ((i : Int) < (T.size : Int)) = true := decide_eq_true (by omega)
     by_cases h48 : (T[i]'hlt).toNat < 48
     ·have q2 : decide (((T[i]'hlt).toNat : Int) < 48) = true := decide_eq_true (by omega)
      have HNN : Hid (isNum s.data.toList = false) := isNum_no _ i (by rw [← HTL.out, ← Lib.size_eq]; exact hlt) (by
       have h9 : (strip s.data.toList)[i]'(by rw [← HTL.out, ← Lib.size_eq]; exact hlt) = T[i]'hlt := by
        have h8 : (strip s.data.toList)[i]? = T.data.toList[i]? := congrArg (fun l => l[i]?) HTL.out.symm
        rw [List.getElem?_eq_getElem (by rw [← HTL.out, ← Lib.size_eq]; exact hlt), List.getElem?_eq_getElem (by rw [← Lib.size_eq]; exact hlt)] at h8
        injection h8
       rw [h9, dig_in]
       simp; omega)
      clear HIN
      go_wp2_with fail
      refine bodyPost_ret (results_tmp2 rfl _ _ _) rfl ?_
      exact ⟨by rw [HNN.out]; rfl, rfl⟩
     ·have q2 : decide (((T[i]'hlt).toNat : Int) < 48) = false := decide_eq_false (by omega)
      by_cases h57 : 57 < (T[i]'hlt).toNat
      ·have q3 : decide (57 < ((T[i]'hlt).toNat : Int)) = true := decide_eq_true (by omega)
       have HNN : Hid (isNum s.data.toList = false) := isNum_no _ i (by rw [← HTL.out, ← Lib.size_eq]; exact hlt) (by
        have h9 : (strip s.data.toList)[i]'(by rw [← HTL.out, ← Lib.size_eq]; exact hlt) = T[i]'hlt := by
         have h8 : (strip s.data.toList)[i]? = T.data.toList[i]? := congrArg (fun l => l[i]?) HTL.out.symm
         rw [List.getElem?_eq_getElem (by rw [← HTL.out, ← Lib.size_eq]; exact hlt), List.getElem?_eq_getElem (by rw [← Lib.size_eq]; exact hlt)] at h8
         injection h8
        rw [h9, dig_in]
        simp; omega)
       clear HIN
       go_wp2_with fail
       refine bodyPost_ret (results_tmp2 rfl _ _ _) rfl ?_
       exact ⟨by rw [HNN.out]; rfl, rfl⟩
      ·have q3 : decide (57 < ((T[i]'hlt).toNat : Int)) = false := decide_eq_false (by omega)
       have HD : Hid (dset.contains (T[i]'hlt) = true) := by
        show _ = _
        rw [dig_in]; simp; omega
       clear h48 h57
       go_wp2_with fail
       go_roundw
       case rel => exact ⟨i + 1, by omega, by go_num, fun k h1 h2 => by
        by_cases hik : k = i
        ·subst hik; exact HD.out
        ·exact HIN.out k h1 (by omega), rfl⟩
       case measure => simp [intOf]; omega
    ·have q1 : decide ((i : Int) < (T.size : Int)) = false := decide_eq_false (by omega)
     have HNY : Hid (isNum s.data.toList = true) := isNum_yes _ (by rw [← HTL.out, ← Lib.size_eq]; exact hT0) (fun j hj => by
      have hj2 : j < T.size := by rw [Lib.size_eq, HTL.out]; exact hj
      have h9 : (strip s.data.toList)[j]'hj = T[j]'hj2 := by
       have h8 : (strip s.data.toList)[j]? = T.data.toList[j]? := congrArg (fun l => l[j]?) HTL.out.symm
       rw [List.getElem?_eq_getElem hj, List.getElem?_eq_getElem (by rw [← Lib.size_eq]; exact hj2)] at h8
       injection h8
      rw [h9]; exact HIN.out j hj2 (by omega))
     clear HIN
     go_wp2_with fail
     go_loopw [4] (fun dv wr' => NdInv T wr dv wr') (fun dv _ => lenOf dv)
     case atStart => exact ⟨T, rfl, by omega, hTz, rfl, rfl⟩
     case round =>
      obtain ⟨d, rfl, hd0, hdz, hnd, rfl⟩ := hrel
      have HND := Lib.hid hnd
      clear hnd
      by_cases h1 : 1 < d.size
      ·have q1 : decide (1 < (d.size : Int)) = true := decide_eq_true (by omega)
       by_cases h48 : (d[0]'hd0).toNat = 48
       ·have E48 : ((((d[0]'hd0).toNat : Int)) == 48) = true := by simpa using (show ((d[0]'hd0).toNat : Int) = 48 by omega)
        have hcut : nought (d.extract 1 d.size).data.toList = nought d.data.toList := by
         rw [ext_list, d_cons d hd0, List.tail_cons, nought_cut _ _ (u8_eq _ 48 h48)]
        have HCUT := Lib.hid hcut
        have hsz : (d.extract 1 d.size).size = d.size - 1 := by simp
        have HSZ := Lib.hid hsz
        clear hcut h48 hsz
        go_wp2_with fail
        go_roundw
        case rel => exact ⟨_, rfl, by rw [HSZ.out]; omega, by rw [HSZ.out]; omega, by rw [HCUT.out]; exact HND.out, rfl⟩
        case measure => simp only [lenOf]; rw [HSZ.out]; omega
       ·have E48 : ((((d[0]'hd0).toNat : Int)) == 48) = false := by simpa using (show ¬ ((d[0]'hd0).toNat : Int) = 48 by omega)
        have HEND : Hid (nought T.data.toList = d.data.toList) := by
         show _ = _
         rw [← HND.out]
         exact nought_end _ (by rw [d_cons d hd0]; simp) (.inr (by rw [d_cons d hd0]; intro e; injection e with e; exact h48 (by rw [e]; rfl)))
        clear h48
        have hnn : nought (strip s.data.toList) = d.data.toList := by rw [← HTL.out]; exact HEND.out
        by_cases h480 : d.data.toList = [48]
        ·have q5 : (d.toList == [48]) = true := by rw [Lib.toList_data, h480]; rfl
         have HE : Hid ((⟨(numOf s.data.toList).toArray⟩ : ByteArray) = d) := by
          show _ = _
          rw [numOf_is, HLO.out, hnn, h480]
          rw [if_neg (by decide), ← h480, Lib.mk_data]
         clear hnn h480
         go_wp2_with fail
         refine bodyPost_ret (results_tmp2 rfl _ _ _) rfl ?_
         exact ⟨by rw [HNY.out, if_pos rfl, HE.out]; rfl, rfl⟩
        ·have q5 : (d.toList == [48]) = false := by rw [beq_eq_false_iff_ne, Lib.toList_data]; exact h480
         have HE : Hid ((⟨(numOf s.data.toList).toArray⟩ : ByteArray) = ⟨#[45]⟩ ++ d) := by
          show _ = _
          have h9 : (d.data.toList == [48]) = false := by simpa using h480
          rw [numOf_is, HLO.out, hnn, h9, if_pos (show (true && !false) = true from rfl)]
          apply ByteArray.ext
          apply Array.ext'
          simp [ByteArray.data_append]
         clear hnn h480
         go_wp2_with fail
         refine bodyPost_ret (results_tmp2 rfl _ _ _) rfl ?_
         exact ⟨by rw [HNY.out, if_pos rfl, HE.out]; rfl, rfl⟩
      ·have q1 : decide (1 < (d.size : Int)) = false := decide_eq_false (by omega)
       have HEND : Hid (nought T.data.toList = d.data.toList) := by
        show _ = _
        rw [← HND.out]
        exact nought_end _ (by rw [d_cons d hd0]; simp) (.inl (by rw [← Lib.size_eq]; omega))
       have hnn : nought (strip s.data.toList) = d.data.toList := by rw [← HTL.out]; exact HEND.out
       by_cases h480 : d.data.toList = [48]
       ·have q5 : (d.toList == [48]) = true := by rw [Lib.toList_data, h480]; rfl
        have HE : Hid ((⟨(numOf s.data.toList).toArray⟩ : ByteArray) = d) := by
         show _ = _
         rw [numOf_is, HLO.out, hnn, h480]
         rw [if_neg (by decide), ← h480, Lib.mk_data]
        clear hnn h480
        go_wp2_with fail
        refine bodyPost_ret (results_tmp2 rfl _ _ _) rfl ?_
        exact ⟨by rw [HNY.out, if_pos rfl, HE.out]; rfl, rfl⟩
       ·have q5 : (d.toList == [48]) = false := by rw [beq_eq_false_iff_ne, Lib.toList_data]; exact h480
        have HE : Hid ((⟨(numOf s.data.toList).toArray⟩ : ByteArray) = ⟨#[45]⟩ ++ d) := by
         show _ = _
         have h9 : (d.data.toList == [48]) = false := by simpa using h480
         rw [numOf_is, HLO.out, hnn, h9, if_pos (show (true && !false) = true from rfl)]
         apply ByteArray.ext
         apply Array.ext'
         simp [ByteArray.data_append]
        clear hnn h480
        go_wp2_with fail
        refine bodyPost_ret (results_tmp2 rfl _ _ _) rfl ?_
        exact ⟨by rw [HNY.out, if_pos rfl, HE.out]; rfl, rfl⟩
  ·have hTn : T.data.toList = [] := List.eq_nil_of_length_eq_zero (by rw [← Lib.size_eq]; exact hT0)
   have e1 : T.toList.isEmpty = true := by rw [Lib.toList_data, hTn]; rfl
   have HNN : Hid (isNum s.data.toList = false) := by
    show _ = _
    unfold isNum
    rw [← HTL.out, hTn]; rfl
   clear hTn hT0
   go_wp2_with fail
   refine bodyPost_ret (results_tmp2 rfl _ _ _) rfl ?_
   exact ⟨by rw [HNN.out]; rfl, rfl⟩
 ·have E45 : ((((s[0]'h0).toNat : Int)) == 45) = false := by simpa using (show ¬ ((s[0]'h0).toNat : Int) = 45 by omega)
  have hlow : low s.data.toList = false := by
   unfold low; rw [hhd]
   have : s[0] ≠ 45 := fun e => h45 (by rw [e]; rfl)
   simpa using this
  obtain ⟨T, hT⟩ : ∃ T : ByteArray, T = s := ⟨_, rfl⟩
  have hTl : T.data.toList = strip s.data.toList := by rw [hT, strip_high _ hlow]
  have hTz : T.size ≤ 9000 := by rw [hT]; exact hs
  have HLO := Lib.hid hlow
  have HTL := Lib.hid hTl
  clear hhd h45 hlow hTl
  go_enter Try.func96, Try.ntmps96
  go_upto_region 4 with fail
  subst hT
  have hT0 : 0 < T.size ∨ T.size = 0 := by omega
  rcases hT0 with hT0 | hT0
  ·have e1 : T.toList.isEmpty = false := by
    rw [Lib.toList_data, d_cons T hT0]; rfl
   go_wp2_with fail
   go_loopw [5] (fun iv wr => NmInv T w iv wr) (fun iv _ => T.size - (intOf iv).toNat)
   case atStart => exact ⟨0, Nat.zero_le _, rfl, fun k _ hk => absurd hk (by omega), rfl⟩
   case round =>
    obtain ⟨i, hi, rfl, hin, rfl⟩ := hrel
    have HIN := Lib.hid hin
    clear hin
    by_cases hlt : i < T.size
    ·have q1 : decide ((i : Int) < (T.size : Int)) = true := decide_eq_true (by omega)
     by_cases h48 : (T[i]'hlt).toNat < 48
     ·have q2 : decide (((T[i]'hlt).toNat : Int) < 48) = true := decide_eq_true (by omega)
      have HNN : Hid (isNum T.data.toList = false) := isNum_no _ i (by rw [← HTL.out, ← Lib.size_eq]; exact hlt) (by
       have h9 : (strip T.data.toList)[i]'(by rw [← HTL.out, ← Lib.size_eq]; exact hlt) = T[i]'hlt := by
        have h8 : (strip T.data.toList)[i]? = T.data.toList[i]? := congrArg (fun l => l[i]?) HTL.out.symm
        rw [List.getElem?_eq_getElem (by rw [← HTL.out, ← Lib.size_eq]; exact hlt), List.getElem?_eq_getElem (by rw [← Lib.size_eq]; exact hlt)] at h8
        injection h8
       rw [h9, dig_in]
       simp; omega)
      clear HIN
      go_wp2_with fail
      refine bodyPost_ret (results_tmp2 rfl _ _ _) rfl ?_
      exact ⟨by rw [HNN.out]; rfl, rfl⟩
     ·have q2 : decide (((T[i]'hlt).toNat : Int) < 48) = false := decide_eq_false (by omega)
      by_cases h57 : 57 < (T[i]'hlt).toNat
      ·have q3 : decide (57 < ((T[i]'hlt).toNat : Int)) = true := decide_eq_true (by omega)
       have HNN : Hid (isNum T.data.toList = false) := isNum_no _ i (by rw [← HTL.out, ← Lib.size_eq]; exact hlt) (by
        have h9 : (strip T.data.toList)[i]'(by rw [← HTL.out, ← Lib.size_eq]; exact hlt) = T[i]'hlt := by
         have h8 : (strip T.data.toList)[i]? = T.data.toList[i]? := congrArg (fun l => l[i]?) HTL.out.symm
         rw [List.getElem?_eq_getElem (by rw [← HTL.out, ← Lib.size_eq]; exact hlt), List.getElem?_eq_getElem (by rw [← Lib.size_eq]; exact hlt)] at h8
         injection h8
        rw [h9, dig_in]
        simp; omega)
       clear HIN
       go_wp2_with fail
       refine bodyPost_ret (results_tmp2 rfl _ _ _) rfl ?_
       exact ⟨by rw [HNN.out]; rfl, rfl⟩
      ·have q3 : decide (57 < ((T[i]'hlt).toNat : Int)) = false := decide_eq_false (by omega)
       have HD : Hid (dset.contains (T[i]'hlt) = true) := by
        show _ = _
        rw [dig_in]; simp; omega
       clear h48 h57
       go_wp2_with fail
       go_roundw
       case rel => exact ⟨i + 1, by omega, by go_num, fun k h1 h2 => by
        by_cases hik : k = i
        ·subst hik; exact HD.out
        ·exact HIN.out k h1 (by omega), rfl⟩
       case measure => simp [intOf]; omega
    ·have q1 : decide ((i : Int) < (T.size : Int)) = false := decide_eq_false (by omega)
     have HNY : Hid (isNum T.data.toList = true) := isNum_yes _ (by rw [← HTL.out, ← Lib.size_eq]; exact hT0) (fun j hj => by
      have hj2 : j < T.size := by rw [Lib.size_eq, HTL.out]; exact hj
      have h9 : (strip T.data.toList)[j]'hj = T[j]'hj2 := by
       have h8 : (strip T.data.toList)[j]? = T.data.toList[j]? := congrArg (fun l => l[j]?) HTL.out.symm
       rw [List.getElem?_eq_getElem hj, List.getElem?_eq_getElem (by rw [← Lib.size_eq]; exact hj2)] at h8
       injection h8
      rw [h9]; exact HIN.out j hj2 (by omega))
     clear HIN
     go_wp2_with fail
     go_loopw [4] (fun dv wr' => NdInv T wr dv wr') (fun dv _ => lenOf dv)
     case atStart => exact ⟨T, rfl, by omega, hTz, rfl, rfl⟩
     case round =>
      obtain ⟨d, rfl, hd0, hdz, hnd, rfl⟩ := hrel
      have HND := Lib.hid hnd
      clear hnd
      by_cases h1 : 1 < d.size
      ·have q1 : decide (1 < (d.size : Int)) = true := decide_eq_true (by omega)
       by_cases h48 : (d[0]'hd0).toNat = 48
       ·have E48 : ((((d[0]'hd0).toNat : Int)) == 48) = true := by simpa using (show ((d[0]'hd0).toNat : Int) = 48 by omega)
        have hcut : nought (d.extract 1 d.size).data.toList = nought d.data.toList := by
         rw [ext_list, d_cons d hd0, List.tail_cons, nought_cut _ _ (u8_eq _ 48 h48)]
        have HCUT := Lib.hid hcut
        have hsz : (d.extract 1 d.size).size = d.size - 1 := by simp
        have HSZ := Lib.hid hsz
        clear hcut h48 hsz
        go_wp2_with fail
        go_roundw
        case rel => exact ⟨_, rfl, by rw [HSZ.out]; omega, by rw [HSZ.out]; omega, by rw [HCUT.out]; exact HND.out, rfl⟩
        case measure => simp only [lenOf]; rw [HSZ.out]; omega
       ·have E48 : ((((d[0]'hd0).toNat : Int)) == 48) = false := by simpa using (show ¬ ((d[0]'hd0).toNat : Int) = 48 by omega)
        have HEND : Hid (nought T.data.toList = d.data.toList) := by
         show _ = _
         rw [← HND.out]
         exact nought_end _ (by rw [d_cons d hd0]; simp) (.inr (by rw [d_cons d hd0]; intro e; injection e with e; exact h48 (by rw [e]; rfl)))
        clear h48
        have hnn : nought (strip T.data.toList) = d.data.toList := by rw [← HTL.out]; exact HEND.out
        have HE : Hid ((⟨(numOf T.data.toList).toArray⟩ : ByteArray) = d) := by
         show _ = _
         rw [numOf_is, HLO.out, Bool.false_and, if_neg (by decide), hnn, Lib.mk_data]
        clear hnn
        go_wp2_with fail
        refine bodyPost_ret (results_tmp2 rfl _ _ _) rfl ?_
        exact ⟨by rw [HNY.out, if_pos rfl, HE.out]; rfl, rfl⟩
      ·have q1 : decide (1 < (d.size : Int)) = false := decide_eq_false (by omega)
       have HEND : Hid (nought T.data.toList = d.data.toList) := by
        show _ = _
        rw [← HND.out]
        exact nought_end _ (by rw [d_cons d hd0]; simp) (.inl (by rw [← Lib.size_eq]; omega))
       have hnn : nought (strip T.data.toList) = d.data.toList := by rw [← HTL.out]; exact HEND.out
       have HE : Hid ((⟨(numOf T.data.toList).toArray⟩ : ByteArray) = d) := by
        show _ = _
        rw [numOf_is, HLO.out, Bool.false_and, if_neg (by decide), hnn, Lib.mk_data]
       clear hnn
       go_wp2_with fail
       refine bodyPost_ret (results_tmp2 rfl _ _ _) rfl ?_
       exact ⟨by rw [HNY.out, if_pos rfl, HE.out]; rfl, rfl⟩
  ·have hTn : T.data.toList = [] := List.eq_nil_of_length_eq_zero (by rw [← Lib.size_eq]; exact hT0)
   have e1 : T.toList.isEmpty = true := by rw [Lib.toList_data, hTn]; rfl
   have HNN : Hid (isNum T.data.toList = false) := by
    show _ = _
    unfold isNum
    rw [← HTL.out, hTn]; rfl
   clear hTn hT0
   go_wp2_with fail
   refine bodyPost_ret (results_tmp2 rfl _ _ _) rfl ?_
   exact ⟨by rw [HNN.out]; rfl, rfl⟩
end Go.Proofs.Ytecljchifebljaa
namespace Go.Proofs.Ytecljchifebljaa
open Go.RowKit Go.BigM

set_option maxHeartbeats 4000000 in
set_option maxRecDepth 100000 in
theorem refRight_low (s t : ByteArray) (ht : t.data.toList = strip s.data.toList) (hx : s.extract 1 s.size = t) (hs0 : 0 < s.size) (hq0 : ((s[0].toNat : Int) == 45) = true) (w : World) (hs : s.size ≤ 9000) :
  Calls Try.prog 97 #[.string s] w fun e w' => e = .returned (.bool (decide (Canon s.data.toList))) ∧ w = w' := by
 have hlen : (strip s.data.toList).length = t.size := by rw [Lib.size_eq, ht]
 by_cases h0 : t.size = 0
 ·have hn : false = true ↔ Canon s.data.toList := by simp [Canon, hlen, h0]
  rw [← right_ret _ _ hn]
  have e1 : ((t.size : Int) == 0) = true := beq_iff_eq.2 (by omega)
  clear ht hlen hn
  go_enter Try.func97, Try.ntmps97
  go_wp2
  go_ret
  exact ⟨rfl, rfl⟩
 ·have h0' : 1 ≤ t.size := by omega
  have e1 : ((t.size : Int) == 0) = false := beq_eq_false_iff_ne.2 (by omega)
  by_cases h1 : 200 < t.size
  ·have hn : false = true ↔ Canon s.data.toList := by simp [Canon, hlen]; intros; omega
   rw [← right_ret _ _ hn]
   have e2 : decide (200 < (t.size : Int)) = true := decide_eq_true (by omega)
   clear ht hlen hn h0
   go_enter Try.func97, Try.ntmps97
   go_wp2
   go_ret
   exact ⟨rfl, rfl⟩
  ·have h1' : t.size ≤ 200 := by omega
   have e2 : decide (200 < (t.size : Int)) = false := decide_eq_false (by omega)
   have hhd : (strip s.data.toList).head? = some t[0] := by
    rw [← ht, List.head?_eq_getElem?, List.getElem?_eq_getElem (by rw [← Lib.size_eq]; omega)]; rfl
   by_cases hz : t[0].toNat = 48 ∧ 1 < s.size
   ·have hn : false = true ↔ Canon s.data.toList := by
     simp only [Bool.false_eq_true, false_iff]
     rintro ⟨_, _, _, h | h⟩
     ·apply h; rw [hhd]; congr 1; exact UInt8.toNat_inj.1 (by rw [hz.1]; rfl)
     ·have := hz.2; rw [Lib.size_eq, h] at this; simp at this
    rw [← right_ret _ _ hn]
    have e3 : ((t[0].toNat : Int) == 48) = true := by rw [beq_iff_eq]; omega
    have e4 : decide (1 < (s.size : Int)) = true := decide_eq_true (by omega)
    clear ht hlen hn h0 hhd hz
    go_enter Try.func97, Try.ntmps97
    go_wp2
    go_ret
    exact ⟨rfl, rfl⟩
   ·have hok : (strip s.data.toList).head? ≠ some 48 ∨ s.data.toList = [48] := by
     by_cases hq : t[0].toNat = 48
     ·right
      have hs1 : s.size ≤ 1 := by omega
      have hq' : t[0] = 48 := UInt8.toNat_inj.1 (by rw [hq]; rfl)
      rw [hq'] at hhd
      cases hl : s.data.toList with
      | nil => rw [hl] at hhd; simp [strip] at hhd
      | cons a m =>
       have : m = [] := by
        rw [Lib.size_eq, hl] at hs1; simp at hs1; exact hs1
       subst this
       rw [hl] at hhd
       unfold strip at hhd
       split at hhd
       ·simp at hhd
       ·simp at hhd; rw [hhd]
     ·left; rw [hhd]; intro e; injection e with e; apply hq; rw [e]; rfl
    have HT := Lib.hid ht
    have HL := Lib.hid hlen
    have HOK := Lib.hid hok
    by_cases hq : t[0].toNat = 48
    ·have e3 : ((t[0].toNat : Int) == 48) = true := by rw [beq_iff_eq]; omega
     have e4 : decide (1 < (s.size : Int)) = false := decide_eq_false (by omega)
     clear ht hlen h0 hhd hz hok h1 hq
     go_enter Try.func97, Try.ntmps97
     go_wp2
     go_loop [4] (fun i => ∃ k : Nat, k ≤ t.size ∧ i = .int .i64 k ∧ Hid (∀ c ∈ t.data.toList.take k, isD c)) (fun i => t.size - (intOf i).toNat)
     case atStart => exact ⟨0, Nat.zero_le _, rfl, by intro c hc; simp at hc⟩
     case round =>
      obtain ⟨k, hk, rfl, hd⟩ := hrel
      by_cases hlt : k < t.size
      ·have hmem : t[k] ∈ t.data.toList := by simp [ByteArray.getElem_eq_getElem_data]
       by_cases ha : t[k].toNat < 48
       ·have hn : false = true ↔ Canon s.data.toList := by
         simp only [Bool.false_eq_true, false_iff]; rintro ⟨_, _, h, _⟩
         have := h _ (by rw [← HT.out]; exact hmem)
         unfold isD at this; omega
        have HR := Lib.hid (right_ret _ _ hn)
        clear hmem hn
        go_wp2
        go_ret
        exact ⟨HR.out, rfl⟩
       ·by_cases hb : 57 < t[k].toNat
        ·have hn : false = true ↔ Canon s.data.toList := by
          simp only [Bool.false_eq_true, false_iff]; rintro ⟨_, _, h, _⟩
          have := h _ (by rw [← HT.out]; exact hmem)
          unfold isD at this; omega
         have HR := Lib.hid (right_ret _ _ hn)
         have ha' : 48 ≤ t[k].toNat := by omega
         clear hmem hn ha
         go_wp2
         go_ret
         exact ⟨HR.out, rfl⟩
        ·have ha' : 48 ≤ t[k].toNat := by omega
         have hb' : t[k].toNat ≤ 57 := by omega
         have hd' : Hid (∀ c ∈ t.data.toList.take (k + 1), isD c) := by
          intro c hc
          rw [take_snoc t k hlt] at hc
          simp only [List.mem_append, List.mem_singleton] at hc
          rcases hc with hc | rfl
          ·exact hd c hc
          ·exact ⟨ha', hb'⟩
         clear hmem ha hb hd
         go_wp2
         go_round
         case rel => exact ⟨k + 1, by omega, by go_num, hd'⟩
         case measure => simp [intOf]; omega
      ·have hk' : k = t.size := by omega
       have q2 : true = true ↔ Canon s.data.toList := by
        simp only [true_iff]
        refine ⟨by rw [HL.out]; exact h0', by rw [HL.out]; exact h1', fun c hc => ?_, HOK.out⟩
        rw [← HT.out] at hc
        exact hd c (by rw [List.take_of_length_le (by rw [← Lib.size_eq]; omega)]; exact hc)
       have HQ := Lib.hid (right_ret _ _ q2)
       clear q2 hd hlt hk
       subst hk'
       go_wp2
       go_ret
       exact ⟨HQ.out, rfl⟩
    ·have e3 : ((t[0].toNat : Int) == 48) = false := by rw [beq_eq_false_iff_ne]; omega
     clear ht hlen h0 hhd hz hok h1 hq
     go_enter Try.func97, Try.ntmps97
     go_wp2
     go_loop [4] (fun i => ∃ k : Nat, k ≤ t.size ∧ i = .int .i64 k ∧ Hid (∀ c ∈ t.data.toList.take k, isD c)) (fun i => t.size - (intOf i).toNat)
     case atStart => exact ⟨0, Nat.zero_le _, rfl, by intro c hc; simp at hc⟩
     case round =>
      obtain ⟨k, hk, rfl, hd⟩ := hrel
      by_cases hlt : k < t.size
      ·have hmem : t[k] ∈ t.data.toList := by simp [ByteArray.getElem_eq_getElem_data]
       by_cases ha : t[k].toNat < 48
       ·have hn : false = true ↔ Canon s.data.toList := by
         simp only [Bool.false_eq_true, false_iff]; rintro ⟨_, _, h, _⟩
         have := h _ (by rw [← HT.out]; exact hmem)
         unfold isD at this; omega
        have HR := Lib.hid (right_ret _ _ hn)
        clear hmem hn
        go_wp2
        go_ret
        exact ⟨HR.out, rfl⟩
       ·by_cases hb : 57 < t[k].toNat
        ·have hn : false = true ↔ Canon s.data.toList := by
          simp only [Bool.false_eq_true, false_iff]; rintro ⟨_, _, h, _⟩
          have := h _ (by rw [← HT.out]; exact hmem)
          unfold isD at this; omega
         have HR := Lib.hid (right_ret _ _ hn)
         have ha' : 48 ≤ t[k].toNat := by omega
         clear hmem hn ha
         go_wp2
         go_ret
         exact ⟨HR.out, rfl⟩
        ·have ha' : 48 ≤ t[k].toNat := by omega
         have hb' : t[k].toNat ≤ 57 := by omega
         have hd' : Hid (∀ c ∈ t.data.toList.take (k + 1), isD c) := by
          intro c hc
          rw [take_snoc t k hlt] at hc
          simp only [List.mem_append, List.mem_singleton] at hc
          rcases hc with hc | rfl
          ·exact hd c hc
          ·exact ⟨ha', hb'⟩
         clear hmem ha hb hd
         go_wp2
         go_round
         case rel => exact ⟨k + 1, by omega, by go_num, hd'⟩
         case measure => simp [intOf]; omega
      ·have hk' : k = t.size := by omega
       have q2 : true = true ↔ Canon s.data.toList := by
        simp only [true_iff]
        refine ⟨by rw [HL.out]; exact h0', by rw [HL.out]; exact h1', fun c hc => ?_, HOK.out⟩
        rw [← HT.out] at hc
        exact hd c (by rw [List.take_of_length_le (by rw [← Lib.size_eq]; omega)]; exact hc)
       have HQ := Lib.hid (right_ret _ _ q2)
       clear q2 hd hlt hk
       subst hk'
       go_wp2
       go_ret
       exact ⟨HQ.out, rfl⟩

set_option maxHeartbeats 4000000 in
set_option maxRecDepth 100000 in
theorem refRight_high (s : ByteArray) (ht : s.data.toList = strip s.data.toList) (hs0 : 0 < s.size) (hq0 : ((s[0].toNat : Int) == 45) = false) (w : World) (hs : s.size ≤ 9000) :
  Calls Try.prog 97 #[.string s] w fun e w' => e = .returned (.bool (decide (Canon s.data.toList))) ∧ w = w' := by
 have hlen : (strip s.data.toList).length = s.size := (congrArg List.length ht).symm.trans (Lib.size_eq s).symm
 by_cases h0 : s.size = 0
 ·have hn : false = true ↔ Canon s.data.toList := by simp [Canon, hlen, h0]
  rw [← right_ret _ _ hn]
  have e1 : ((s.size : Int) == 0) = true := beq_iff_eq.2 (by omega)
  clear ht hlen hn
  go_enter Try.func97, Try.ntmps97
  go_wp2
  go_ret
  exact ⟨rfl, rfl⟩
 ·have h0' : 1 ≤ s.size := by omega
  have e1 : ((s.size : Int) == 0) = false := beq_eq_false_iff_ne.2 (by omega)
  by_cases h1 : 200 < s.size
  ·have hn : false = true ↔ Canon s.data.toList := by simp [Canon, hlen]; intros; omega
   rw [← right_ret _ _ hn]
   have e2 : decide (200 < (s.size : Int)) = true := decide_eq_true (by omega)
   clear ht hlen hn h0
   go_enter Try.func97, Try.ntmps97
   go_wp2
   go_ret
   exact ⟨rfl, rfl⟩
  ·have h1' : s.size ≤ 200 := by omega
   have e2 : decide (200 < (s.size : Int)) = false := decide_eq_false (by omega)
   have hhd : (strip s.data.toList).head? = some s[0] := by
    rw [← ht, List.head?_eq_getElem?, List.getElem?_eq_getElem (by rw [← Lib.size_eq]; omega)]; rfl
   by_cases hz : s[0].toNat = 48 ∧ 1 < s.size
   ·have hn : false = true ↔ Canon s.data.toList := by
     simp only [Bool.false_eq_true, false_iff]
     rintro ⟨_, _, _, h | h⟩
     ·apply h; rw [hhd]; congr 1; exact UInt8.toNat_inj.1 (by rw [hz.1]; rfl)
     ·have := hz.2; rw [Lib.size_eq, h] at this; simp at this
    rw [← right_ret _ _ hn]
    have e3 : ((s[0].toNat : Int) == 48) = true := by rw [beq_iff_eq]; omega
    have e4 : decide (1 < (s.size : Int)) = true := decide_eq_true (by omega)
    clear ht hlen hn h0 hhd hz
    go_enter Try.func97, Try.ntmps97
    go_wp2
    go_ret
    exact ⟨rfl, rfl⟩
   ·have hok : (strip s.data.toList).head? ≠ some 48 ∨ s.data.toList = [48] := by
     by_cases hq : s[0].toNat = 48
     ·right
      have hs1 : s.size ≤ 1 := by omega
      have hq' : s[0] = 48 := UInt8.toNat_inj.1 (by rw [hq]; rfl)
      rw [hq'] at hhd
      cases hl : s.data.toList with
      | nil => rw [hl] at hhd; simp [strip] at hhd
      | cons a m =>
       have : m = [] := by
        rw [Lib.size_eq, hl] at hs1; simp at hs1; exact hs1
       subst this
       rw [hl] at hhd
       unfold strip at hhd
       split at hhd
       ·simp at hhd
       ·simp at hhd; rw [hhd]
     ·left; rw [hhd]; intro e; injection e with e; apply hq; rw [e]; rfl
    have HT := Lib.hid ht
    have HL := Lib.hid hlen
    have HOK := Lib.hid hok
    by_cases hq : s[0].toNat = 48
    ·have e3 : ((s[0].toNat : Int) == 48) = true := by rw [beq_iff_eq]; omega
     have e4 : decide (1 < (s.size : Int)) = false := decide_eq_false (by omega)
     clear ht hlen h0 hhd hz hok h1 hq
     go_enter Try.func97, Try.ntmps97
     go_wp2
     go_loop [4] (fun i => ∃ k : Nat, k ≤ s.size ∧ i = .int .i64 k ∧ Hid (∀ c ∈ s.data.toList.take k, isD c)) (fun i => s.size - (intOf i).toNat)
     case atStart => exact ⟨0, Nat.zero_le _, rfl, by intro c hc; simp at hc⟩
     case round =>
      obtain ⟨k, hk, rfl, hd⟩ := hrel
      by_cases hlt : k < s.size
      ·have hmem : s[k] ∈ s.data.toList := by simp [ByteArray.getElem_eq_getElem_data]
       by_cases ha : s[k].toNat < 48
       ·have hn : false = true ↔ Canon s.data.toList := by
         simp only [Bool.false_eq_true, false_iff]; rintro ⟨_, _, h, _⟩
         have := h _ (by rw [← HT.out]; exact hmem)
         unfold isD at this; omega
        have HR := Lib.hid (right_ret _ _ hn)
        clear hmem hn
        go_wp2
        go_ret
        exact ⟨HR.out, rfl⟩
       ·by_cases hb : 57 < s[k].toNat
        ·have hn : false = true ↔ Canon s.data.toList := by
          simp only [Bool.false_eq_true, false_iff]; rintro ⟨_, _, h, _⟩
          have := h _ (by rw [← HT.out]; exact hmem)
          unfold isD at this; omega
         have HR := Lib.hid (right_ret _ _ hn)
         have ha' : 48 ≤ s[k].toNat := by omega
         clear hmem hn ha
         go_wp2
         go_ret
         exact ⟨HR.out, rfl⟩
        ·have ha' : 48 ≤ s[k].toNat := by omega
         have hb' : s[k].toNat ≤ 57 := by omega
         have hd' : Hid (∀ c ∈ s.data.toList.take (k + 1), isD c) := by
          intro c hc
          rw [take_snoc s k hlt] at hc
          simp only [List.mem_append, List.mem_singleton] at hc
          rcases hc with hc | rfl
          ·exact hd c hc
          ·exact ⟨ha', hb'⟩
         clear hmem ha hb hd
         go_wp2
         go_round
         case rel => exact ⟨k + 1, by omega, by go_num, hd'⟩
         case measure => simp [intOf]; omega
      ·have hk' : k = s.size := by omega
       have q2 : true = true ↔ Canon s.data.toList := by
        simp only [true_iff]
        refine ⟨by rw [HL.out]; exact h0', by rw [HL.out]; exact h1', fun c hc => ?_, HOK.out⟩
        rw [← HT.out] at hc
        exact hd c (by rw [List.take_of_length_le (by rw [← Lib.size_eq]; omega)]; exact hc)
       have HQ := Lib.hid (right_ret _ _ q2)
       clear q2 hd hlt hk
       subst hk'
       go_wp2
       go_ret
       exact ⟨HQ.out, rfl⟩
    ·have e3 : ((s[0].toNat : Int) == 48) = false := by rw [beq_eq_false_iff_ne]; omega
     clear ht hlen h0 hhd hz hok h1 hq
     go_enter Try.func97, Try.ntmps97
     go_wp2
     go_loop [4] (fun i => ∃ k : Nat, k ≤ s.size ∧ i = .int .i64 k ∧ Hid (∀ c ∈ s.data.toList.take k, isD c)) (fun i => s.size - (intOf i).toNat)
     case atStart => exact ⟨0, Nat.zero_le _, rfl, by intro c hc; simp at hc⟩
     case round =>
      obtain ⟨k, hk, rfl, hd⟩ := hrel
      by_cases hlt : k < s.size
      ·have hmem : s[k] ∈ s.data.toList := by simp [ByteArray.getElem_eq_getElem_data]
       by_cases ha : s[k].toNat < 48
       ·have hn : false = true ↔ Canon s.data.toList := by
         simp only [Bool.false_eq_true, false_iff]; rintro ⟨_, _, h, _⟩
         have := h _ (by rw [← HT.out]; exact hmem)
         unfold isD at this; omega
        have HR := Lib.hid (right_ret _ _ hn)
        clear hmem hn
        go_wp2
        go_ret
        exact ⟨HR.out, rfl⟩
       ·by_cases hb : 57 < s[k].toNat
        ·have hn : false = true ↔ Canon s.data.toList := by
          simp only [Bool.false_eq_true, false_iff]; rintro ⟨_, _, h, _⟩
          have := h _ (by rw [← HT.out]; exact hmem)
          unfold isD at this; omega
         have HR := Lib.hid (right_ret _ _ hn)
         have ha' : 48 ≤ s[k].toNat := by omega
         clear hmem hn ha
         go_wp2
         go_ret
         exact ⟨HR.out, rfl⟩
        ·have ha' : 48 ≤ s[k].toNat := by omega
         have hb' : s[k].toNat ≤ 57 := by omega
         have hd' : Hid (∀ c ∈ s.data.toList.take (k + 1), isD c) := by
          intro c hc
          rw [take_snoc s k hlt] at hc
          simp only [List.mem_append, List.mem_singleton] at hc
          rcases hc with hc | rfl
          ·exact hd c hc
          ·exact ⟨ha', hb'⟩
         clear hmem ha hb hd
         go_wp2
         go_round
         case rel => exact ⟨k + 1, by omega, by go_num, hd'⟩
         case measure => simp [intOf]; omega
      ·have hk' : k = s.size := by omega
       have q2 : true = true ↔ Canon s.data.toList := by
        simp only [true_iff]
        refine ⟨by rw [HL.out]; exact h0', by rw [HL.out]; exact h1', fun c hc => ?_, HOK.out⟩
        rw [← HT.out] at hc
        exact hd c (by rw [List.take_of_length_le (by rw [← Lib.size_eq]; omega)]; exact hc)
       have HQ := Lib.hid (right_ret _ _ q2)
       clear q2 hd hlt hk
       subst hk'
       go_wp2
       go_ret
       exact ⟨HQ.out, rfl⟩

theorem refRight_nil (w : World) : Calls Try.prog 97 #[.string ⟨#[]⟩] w fun e w' => e = .returned (.bool false) ∧ w = w' := by
 go_enter Try.func97, Try.ntmps97
 go_wp2
 go_ret
 exact ⟨rfl, rfl⟩
theorem refRight_any (s : ByteArray) (w : World) (hs : s.size ≤ 9000) : Calls Try.prog 97 #[.string s] w fun e w' => e = .returned (.bool (decide (Canon s.data.toList))) ∧ w = w' := by
 cases hd : s.data.toList with
 | nil =>
  obtain rfl : s = ⟨#[]⟩ := by rw [← Lib.mk_data s, hd]
  exact refRight_nil w
 | cons a m =>
  have h0 : 0 < s.size := by rw [Lib.size_eq, hd]; simp
  have ha : s[0] = a := by
   have : s[0] = s.data.toList[0]'(by rw [hd]; simp) := rfl
   rw [this]; simp only [hd]; rfl
  rw [← hd]
  by_cases h : a = 45
  ·have hl : low s.data.toList = true := by rw [hd, h]; simp [low]
   refine refRight_low s (s.extract 1 s.size) ?_ rfl h0 (by rw [ha, h]; rfl) w hs
   rw [strip_low _ hl, Lib.extract_data, List.take_of_length_le (by rw [List.length_drop, ← Lib.size_eq]; exact Nat.le_refl _)]
   simp
  ·have hl : low s.data.toList = false := by rw [hd]; simp [low, h]
   refine refRight_high s (strip_high _ hl).symm h0 ?_ w hs
   rw [ha, beq_eq_false_iff_ne]
   intro e
   apply h
   apply UInt8.toNat_inj.1
   have h45 : (45 : UInt8).toNat = 45 := rfl
   omega
end Go.Proofs.Ytecljchifebljaa
