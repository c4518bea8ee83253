/- The document's reader: numbers. -/
import Derived.Test.YtahdiknkcgnieaaDoorQ0
namespace Go.Proofs.YtahdiknkcgnieaaDoor
open Go.RowKit Go.BigM
set_option linter.unusedVariables false
set_option linter.unusedSimpArgs false
theorem ext_list (s : ByteArray) : (s.extract 1 s.size).data.toList = s.data.toList.tail := by
  rw [ByteArray.data_extract, Array.toList_extract]
  rw [List.extract_eq_take_drop, List.drop_one, List.take_of_length_le (by rw [List.length_tail, ← Lib.size_eq]; exact Nat.le_refl _)]
theorem dig_in (c : UInt8) : dset.contains c = (decide (48 ≤ c.toNat) && decide (c.toNat ≤ 57)) := by
  have key : ∀ c : UInt8, dset.contains c = (decide (48 ≤ c.toNat) && decide (c.toNat ≤ 57)) := u8_all (by decide +kernel)
  exact key c
/-- The row of digits, without noughts ahead. -/
def nought (l : List UInt8) : List UInt8 := if l.dropWhile (· == 48) = [] then [48] else l.dropWhile (· == 48)
theorem nought_cut (c : UInt8) (l : List UInt8) (h : c = 48) : nought (c :: l) = nought l := by
  subst h; unfold nought; rw [List.dropWhile_cons]; simp
theorem nought_end (l : List UInt8) (h0 : l ≠ []) (h : l.length = 1 ∨ l.head? ≠ some 48) : nought l = l := by
  unfold nought
  cases l with
  | nil => exact absurd rfl h0
  | cons c r =>
    by_cases hc : c = 48
    · subst hc
      rcases h with h | h
      · have hr : r = [] := by simpa using h
        subst hr
        simp [List.dropWhile]
      · exact absurd rfl h
    · have h2 : (c == 48) = false := by simpa using hc
      rw [List.dropWhile_cons, h2]
      simp
theorem numOf_is (l : List UInt8) : numOf l = if low l && !(nought (strip l) == [48]) then 45 :: nought (strip l) else nought (strip l) := by
  unfold numOf nought
  by_cases h : (strip l).dropWhile (· == 48) = []
  · simp [h]
  · simp only [h, if_false]
    have hh : (strip l).dropWhile (· == 48) ≠ [48] := by
      intro e
      have h2 := List.head_dropWhile_not (p := (· == (48 : UInt8))) (l := strip l) (by simpa using h)
      simp [e] at h2
    have h3 : ((strip l).dropWhile (· == 48) == [48]) = false := by simpa using hh
    cases low l <;> simp [h3]
theorem isNum_no (l : List UInt8) (j : Nat) (h : j < (strip l).length) (hd : dset.contains (strip l)[j] = false) : isNum l = false := by
  unfold isNum
  have h2 : rowOf dset (strip l) ≠ (strip l).length := by
    intro e
    unfold rowOf at e
    have h3 : (strip l).takeWhile dset.contains = strip l := (List.takeWhile_prefix _).eq_of_length e
    have h5 : ((strip l).takeWhile dset.contains).all dset.contains = true := List.all_takeWhile
    rw [h3] at h5
    have h4 := List.all_eq_true.1 h5 _ (List.getElem_mem h)
    rw [hd] at h4; cases h4
  have h3 : (rowOf dset (strip l) == (strip l).length) = false := by simpa using h2
  rw [h3, Bool.and_false]
theorem isNum_yes (l : List UInt8) (h0 : 0 < (strip l).length) (h : ∀ j (hj : j < (strip l).length), dset.contains (strip l)[j] = true) : isNum l = true := by
  unfold isNum
  have h2 : rowOf dset (strip l) = (strip l).length := rowOf_end dset _ _ (Nat.le_refl _) (fun i hi _ => h i hi) (fun hh => absurd hh (by omega))
  simp [h0, h2]
def RetNum (l : List UInt8) (w : World) (e : Ending) (w' : World) : Prop := e = .returned (.tuple #[.string (if isNum l then ⟨(numOf l).toArray⟩ else ⟨#[]⟩), .bool (isNum l)]) ∧ w = w'
def NmInv (T : ByteArray) (w : World) (iv : Value) (wr : World) : Prop := ∃ i : Nat, i ≤ T.size ∧ iv = .int .i64 (i : Int) ∧ (∀ k (h : k < T.size), k < i → dset.contains T[k] = true) ∧ wr = w
def NdInv (T : ByteArray) (w : World) (dv : Value) (wr : World) : Prop := ∃ d : ByteArray, dv = .string d ∧ 0 < d.size ∧ d.size ≤ 9000 ∧ nought d.data.toList = nought T.data.toList ∧ wr = w
def lenOf (v : Value) : Nat := match v with | .string s => s.size | _ => 0
theorem u8_eq (c : UInt8) (v : Nat) (h : c.toNat = v) : c = UInt8.ofNat v := by rw [← h]; simp
theorem d_cons (d : ByteArray) (h : 0 < d.size) : d.data.toList = d[0] :: d.data.toList.tail := by
  have hl : 0 < d.data.toList.length := by rw [← Lib.size_eq]; exact h
  have h2 := List.drop_eq_getElem_cons (l := d.data.toList) hl
  rw [List.drop_zero] at h2
  rw [← List.drop_one]
  exact h2
set_option maxHeartbeats 16000000 in
set_option maxRecDepth 100000 in
theorem number3_any (s : ByteArray) (w : World) (h0 : 0 < s.size) (hs : s.size ≤ 9000) : Calls Tryd.prog 60 #[.string s] w (RetNum s.data.toList w) := by
  have hhd : s.data.toList.head? = some s[0] := by rw [d_cons s h0]; rfl
  by_cases h45 : (s[0]'h0).toNat = 45
  · have E45 : ((((s[0]'h0).toNat : Int)) == 45) = true := by simpa using (show ((s[0]'h0).toNat : Int) = 45 by omega)
    have hlow : low s.data.toList = true := by unfold low; rw [hhd, u8_eq _ 45 h45]; rfl
    obtain ⟨T, hT⟩ : ∃ T : ByteArray, T = s.extract 1 s.size := ⟨_, rfl⟩
    have hTl : T.data.toList = strip s.data.toList := by rw [hT, ext_list, strip_low _ hlow]
    have hTz : T.size ≤ 9000 := by rw [hT]; simp; omega
    have HLO := Lib.hid hlow
    have HTL := Lib.hid hTl
    clear hhd h45 hlow hTl
    go_enter Tryd.func60, Tryd.ntmps60
    go_upto_region 4 with fail
    simp only [← hT]
    clear hT
    have hT0 : 0 < T.size ∨ T.size = 0 := by omega
    rcases hT0 with hT0 | hT0
    · have e1 : T.toList.isEmpty = false := by
        rw [Lib.toList_data, d_cons T hT0]; rfl
      go_wp2_with fail
      go_loopw [5] (fun iv wr => NmInv T w iv wr) (fun iv _ => T.size - (intOf iv).toNat)
      case atStart => exact ⟨0, Nat.zero_le _, rfl, fun k _ hk => absurd hk (by omega), rfl⟩
      case round =>
        obtain ⟨i, hi, rfl, hin, rfl⟩ := hrel
        have HIN := Lib.hid hin
        clear hin
        by_cases hlt : i < T.size
        · have q1 : decide ((i : Int) < (T.size : Int)) = true := decide_eq_true (by omega)
          by_cases h48 : (T[i]'hlt).toNat < 48
          · have q2 : decide (((T[i]'hlt).toNat : Int) < 48) = true := decide_eq_true (by omega)
            have HNN : Hid (isNum s.data.toList = false) := isNum_no _ i (by rw [← HTL.out, ← Lib.size_eq]; exact hlt) (by
              have h9 : (strip s.data.toList)[i]'(by rw [← HTL.out, ← Lib.size_eq]; exact hlt) = T[i]'hlt := by
                have h8 : (strip s.data.toList)[i]? = T.data.toList[i]? := congrArg (fun l => l[i]?) HTL.out.symm
                rw [List.getElem?_eq_getElem (by rw [← HTL.out, ← Lib.size_eq]; exact hlt), List.getElem?_eq_getElem (by rw [← Lib.size_eq]; exact hlt)] at h8
                injection h8
              rw [h9, dig_in]
              simp; omega)
            clear HIN
            go_wp2_with fail
            refine bodyPost_ret (results_tmp2 rfl _ _ _) rfl ?_
            exact ⟨by rw [HNN.out]; rfl, rfl⟩
          · have q2 : decide (((T[i]'hlt).toNat : Int) < 48) = false := decide_eq_false (by omega)
            by_cases h57 : 57 < (T[i]'hlt).toNat
            · have q3 : decide (57 < ((T[i]'hlt).toNat : Int)) = true := decide_eq_true (by omega)
              have HNN : Hid (isNum s.data.toList = false) := isNum_no _ i (by rw [← HTL.out, ← Lib.size_eq]; exact hlt) (by
                have h9 : (strip s.data.toList)[i]'(by rw [← HTL.out, ← Lib.size_eq]; exact hlt) = T[i]'hlt := by
                  have h8 : (strip s.data.toList)[i]? = T.data.toList[i]? := congrArg (fun l => l[i]?) HTL.out.symm
                  rw [List.getElem?_eq_getElem (by rw [← HTL.out, ← Lib.size_eq]; exact hlt), List.getElem?_eq_getElem (by rw [← Lib.size_eq]; exact hlt)] at h8
                  injection h8
                rw [h9, dig_in]
                simp; omega)
              clear HIN
              go_wp2_with fail
              refine bodyPost_ret (results_tmp2 rfl _ _ _) rfl ?_
              exact ⟨by rw [HNN.out]; rfl, rfl⟩
            · have q3 : decide (57 < ((T[i]'hlt).toNat : Int)) = false := decide_eq_false (by omega)
              have HD : Hid (dset.contains (T[i]'hlt) = true) := by
                show _ = _
                rw [dig_in]; simp; omega
              clear h48 h57
              go_wp2_with fail
              go_roundw
              case rel => exact ⟨i + 1, by omega, by go_num, fun k h1 h2 => by
                by_cases hik : k = i
                · subst hik; exact HD.out
                · exact HIN.out k h1 (by omega), rfl⟩
              case measure => simp [intOf]; omega
        · have q1 : decide ((i : Int) < (T.size : Int)) = false := decide_eq_false (by omega)
          have HNY : Hid (isNum s.data.toList = true) := isNum_yes _ (by rw [← HTL.out, ← Lib.size_eq]; exact hT0) (fun j hj => by
            have hj2 : j < T.size := by rw [Lib.size_eq, HTL.out]; exact hj
            have h9 : (strip s.data.toList)[j]'hj = T[j]'hj2 := by
              have h8 : (strip s.data.toList)[j]? = T.data.toList[j]? := congrArg (fun l => l[j]?) HTL.out.symm
              rw [List.getElem?_eq_getElem hj, List.getElem?_eq_getElem (by rw [← Lib.size_eq]; exact hj2)] at h8
              injection h8
            rw [h9]; exact HIN.out j hj2 (by omega))
          clear HIN
          go_wp2_with fail
          go_loopw [4] (fun dv wr' => NdInv T wr dv wr') (fun dv _ => lenOf dv)
          case atStart => exact ⟨T, rfl, by omega, hTz, rfl, rfl⟩
          case round =>
            obtain ⟨d, rfl, hd0, hdz, hnd, rfl⟩ := hrel
            have HND := Lib.hid hnd
            clear hnd
            by_cases h1 : 1 < d.size
            · have q1 : decide (1 < (d.size : Int)) = true := decide_eq_true (by omega)
              by_cases h48 : (d[0]'hd0).toNat = 48
              · have E48 : ((((d[0]'hd0).toNat : Int)) == 48) = true := by simpa using (show ((d[0]'hd0).toNat : Int) = 48 by omega)
                have hcut : nought (d.extract 1 d.size).data.toList = nought d.data.toList := by
                  rw [ext_list, d_cons d hd0, List.tail_cons, nought_cut _ _ (u8_eq _ 48 h48)]
                have HCUT := Lib.hid hcut
                have hsz : (d.extract 1 d.size).size = d.size - 1 := by simp
                have HSZ := Lib.hid hsz
                clear hcut h48 hsz
                go_wp2_with fail
                go_roundw
                case rel => exact ⟨_, rfl, by rw [HSZ.out]; omega, by rw [HSZ.out]; omega, by rw [HCUT.out]; exact HND.out, rfl⟩
                case measure => simp only [lenOf]; rw [HSZ.out]; omega
              · have E48 : ((((d[0]'hd0).toNat : Int)) == 48) = false := by simpa using (show ¬ ((d[0]'hd0).toNat : Int) = 48 by omega)
                have HEND : Hid (nought T.data.toList = d.data.toList) := by
                  show _ = _
                  rw [← HND.out]
                  exact nought_end _ (by rw [d_cons d hd0]; simp) (.inr (by rw [d_cons d hd0]; intro e; injection e with e; exact h48 (by rw [e]; rfl)))
                clear h48
                have hnn : nought (strip s.data.toList) = d.data.toList := by rw [← HTL.out]; exact HEND.out
                by_cases h480 : d.data.toList = [48]
                · have q5 : (d.toList == [48]) = true := by rw [Lib.toList_data, h480]; rfl
                  have HE : Hid ((⟨(numOf s.data.toList).toArray⟩ : ByteArray) = d) := by
                    show _ = _
                    rw [numOf_is, HLO.out, hnn, h480]
                    rw [if_neg (by decide), ← h480, Lib.mk_data]
                  clear hnn h480
                  go_wp2_with fail
                  refine bodyPost_ret (results_tmp2 rfl _ _ _) rfl ?_
                  exact ⟨by rw [HNY.out, if_pos rfl, HE.out]; rfl, rfl⟩
                · have q5 : (d.toList == [48]) = false := by rw [beq_eq_false_iff_ne, Lib.toList_data]; exact h480
                  have HE : Hid ((⟨(numOf s.data.toList).toArray⟩ : ByteArray) = ⟨#[45]⟩ ++ d) := by
                    show _ = _
                    have h9 : (d.data.toList == [48]) = false := by simpa using h480
                    rw [numOf_is, HLO.out, hnn, h9, if_pos (show (true && !false) = true from rfl)]
                    apply ByteArray.ext
                    apply Array.ext'
                    simp [ByteArray.data_append]
                  clear hnn h480
                  go_wp2_with fail
                  refine bodyPost_ret (results_tmp2 rfl _ _ _) rfl ?_
                  exact ⟨by rw [HNY.out, if_pos rfl, HE.out]; rfl, rfl⟩
            · have q1 : decide (1 < (d.size : Int)) = false := decide_eq_false (by omega)
              have HEND : Hid (nought T.data.toList = d.data.toList) := by
                show _ = _
                rw [← HND.out]
                exact nought_end _ (by rw [d_cons d hd0]; simp) (.inl (by rw [← Lib.size_eq]; omega))
              have hnn : nought (strip s.data.toList) = d.data.toList := by rw [← HTL.out]; exact HEND.out
              by_cases h480 : d.data.toList = [48]
              · have q5 : (d.toList == [48]) = true := by rw [Lib.toList_data, h480]; rfl
                have HE : Hid ((⟨(numOf s.data.toList).toArray⟩ : ByteArray) = d) := by
                  show _ = _
                  rw [numOf_is, HLO.out, hnn, h480]
                  rw [if_neg (by decide), ← h480, Lib.mk_data]
                clear hnn h480
                go_wp2_with fail
                refine bodyPost_ret (results_tmp2 rfl _ _ _) rfl ?_
                exact ⟨by rw [HNY.out, if_pos rfl, HE.out]; rfl, rfl⟩
              · have q5 : (d.toList == [48]) = false := by rw [beq_eq_false_iff_ne, Lib.toList_data]; exact h480
                have HE : Hid ((⟨(numOf s.data.toList).toArray⟩ : ByteArray) = ⟨#[45]⟩ ++ d) := by
                  show _ = _
                  have h9 : (d.data.toList == [48]) = false := by simpa using h480
                  rw [numOf_is, HLO.out, hnn, h9, if_pos (show (true && !false) = true from rfl)]
                  apply ByteArray.ext
                  apply Array.ext'
                  simp [ByteArray.data_append]
                clear hnn h480
                go_wp2_with fail
                refine bodyPost_ret (results_tmp2 rfl _ _ _) rfl ?_
                exact ⟨by rw [HNY.out, if_pos rfl, HE.out]; rfl, rfl⟩
    · have hTn : T.data.toList = [] := List.eq_nil_of_length_eq_zero (by rw [← Lib.size_eq]; exact hT0)
      have e1 : T.toList.isEmpty = true := by rw [Lib.toList_data, hTn]; rfl
      have HNN : Hid (isNum s.data.toList = false) := by
        show _ = _
        unfold isNum
        rw [← HTL.out, hTn]; rfl
      clear hTn hT0
      go_wp2_with fail
      refine bodyPost_ret (results_tmp2 rfl _ _ _) rfl ?_
      exact ⟨by rw [HNN.out]; rfl, rfl⟩
  · have E45 : ((((s[0]'h0).toNat : Int)) == 45) = false := by simpa using (show ¬ ((s[0]'h0).toNat : Int) = 45 by omega)
    have hlow : low s.data.toList = false := by
      unfold low; rw [hhd]
      have : s[0] ≠ 45 := fun e => h45 (by rw [e]; rfl)
      simpa using this
    obtain ⟨T, hT⟩ : ∃ T : ByteArray, T = s := ⟨_, rfl⟩
    have hTl : T.data.toList = strip s.data.toList := by rw [hT, strip_high _ hlow]
    have hTz : T.size ≤ 9000 := by rw [hT]; exact hs
    have HLO := Lib.hid hlow
    have HTL := Lib.hid hTl
    clear hhd h45 hlow hTl
    go_enter Tryd.func60, Tryd.ntmps60
    go_upto_region 4 with fail
    subst hT
    have hT0 : 0 < T.size ∨ T.size = 0 := by omega
    rcases hT0 with hT0 | hT0
    · have e1 : T.toList.isEmpty = false := by
        rw [Lib.toList_data, d_cons T hT0]; rfl
      go_wp2_with fail
      go_loopw [5] (fun iv wr => NmInv T w iv wr) (fun iv _ => T.size - (intOf iv).toNat)
      case atStart => exact ⟨0, Nat.zero_le _, rfl, fun k _ hk => absurd hk (by omega), rfl⟩
      case round =>
        obtain ⟨i, hi, rfl, hin, rfl⟩ := hrel
        have HIN := Lib.hid hin
        clear hin
        by_cases hlt : i < T.size
        · have q1 : decide ((i : Int) < (T.size : Int)) = true := decide_eq_true (by omega)
          by_cases h48 : (T[i]'hlt).toNat < 48
          · have q2 : decide (((T[i]'hlt).toNat : Int) < 48) = true := decide_eq_true (by omega)
            have HNN : Hid (isNum T.data.toList = false) := isNum_no _ i (by rw [← HTL.out, ← Lib.size_eq]; exact hlt) (by
              have h9 : (strip T.data.toList)[i]'(by rw [← HTL.out, ← Lib.size_eq]; exact hlt) = T[i]'hlt := by
                have h8 : (strip T.data.toList)[i]? = T.data.toList[i]? := congrArg (fun l => l[i]?) HTL.out.symm
                rw [List.getElem?_eq_getElem (by rw [← HTL.out, ← Lib.size_eq]; exact hlt), List.getElem?_eq_getElem (by rw [← Lib.size_eq]; exact hlt)] at h8
                injection h8
              rw [h9, dig_in]
              simp; omega)
            clear HIN
            go_wp2_with fail
            refine bodyPost_ret (results_tmp2 rfl _ _ _) rfl ?_
            exact ⟨by rw [HNN.out]; rfl, rfl⟩
          · have q2 : decide (((T[i]'hlt).toNat : Int) < 48) = false := decide_eq_false (by omega)
            by_cases h57 : 57 < (T[i]'hlt).toNat
            · have q3 : decide (57 < ((T[i]'hlt).toNat : Int)) = true := decide_eq_true (by omega)
              have HNN : Hid (isNum T.data.toList = false) := isNum_no _ i (by rw [← HTL.out, ← Lib.size_eq]; exact hlt) (by
                have h9 : (strip T.data.toList)[i]'(by rw [← HTL.out, ← Lib.size_eq]; exact hlt) = T[i]'hlt := by
                  have h8 : (strip T.data.toList)[i]? = T.data.toList[i]? := congrArg (fun l => l[i]?) HTL.out.symm
                  rw [List.getElem?_eq_getElem (by rw [← HTL.out, ← Lib.size_eq]; exact hlt), List.getElem?_eq_getElem (by rw [← Lib.size_eq]; exact hlt)] at h8
                  injection h8
                rw [h9, dig_in]
                simp; omega)
              clear HIN
              go_wp2_with fail
              refine bodyPost_ret (results_tmp2 rfl _ _ _) rfl ?_
              exact ⟨by rw [HNN.out]; rfl, rfl⟩
            · have q3 : decide (57 < ((T[i]'hlt).toNat : Int)) = false := decide_eq_false (by omega)
              have HD : Hid (dset.contains (T[i]'hlt) = true) := by
                show _ = _
                rw [dig_in]; simp; omega
              clear h48 h57
              go_wp2_with fail
              go_roundw
              case rel => exact ⟨i + 1, by omega, by go_num, fun k h1 h2 => by
                by_cases hik : k = i
                · subst hik; exact HD.out
                · exact HIN.out k h1 (by omega), rfl⟩
              case measure => simp [intOf]; omega
        · have q1 : decide ((i : Int) < (T.size : Int)) = false := decide_eq_false (by omega)
          have HNY : Hid (isNum T.data.toList = true) := isNum_yes _ (by rw [← HTL.out, ← Lib.size_eq]; exact hT0) (fun j hj => by
            have hj2 : j < T.size := by rw [Lib.size_eq, HTL.out]; exact hj
            have h9 : (strip T.data.toList)[j]'hj = T[j]'hj2 := by
              have h8 : (strip T.data.toList)[j]? = T.data.toList[j]? := congrArg (fun l => l[j]?) HTL.out.symm
              rw [List.getElem?_eq_getElem hj, List.getElem?_eq_getElem (by rw [← Lib.size_eq]; exact hj2)] at h8
              injection h8
            rw [h9]; exact HIN.out j hj2 (by omega))
          clear HIN
          go_wp2_with fail
          go_loopw [4] (fun dv wr' => NdInv T wr dv wr') (fun dv _ => lenOf dv)
          case atStart => exact ⟨T, rfl, by omega, hTz, rfl, rfl⟩
          case round =>
            obtain ⟨d, rfl, hd0, hdz, hnd, rfl⟩ := hrel
            have HND := Lib.hid hnd
            clear hnd
            by_cases h1 : 1 < d.size
            · have q1 : decide (1 < (d.size : Int)) = true := decide_eq_true (by omega)
              by_cases h48 : (d[0]'hd0).toNat = 48
              · have E48 : ((((d[0]'hd0).toNat : Int)) == 48) = true := by simpa using (show ((d[0]'hd0).toNat : Int) = 48 by omega)
                have hcut : nought (d.extract 1 d.size).data.toList = nought d.data.toList := by
                  rw [ext_list, d_cons d hd0, List.tail_cons, nought_cut _ _ (u8_eq _ 48 h48)]
                have HCUT := Lib.hid hcut
                have hsz : (d.extract 1 d.size).size = d.size - 1 := by simp
                have HSZ := Lib.hid hsz
                clear hcut h48 hsz
                go_wp2_with fail
                go_roundw
                case rel => exact ⟨_, rfl, by rw [HSZ.out]; omega, by rw [HSZ.out]; omega, by rw [HCUT.out]; exact HND.out, rfl⟩
                case measure => simp only [lenOf]; rw [HSZ.out]; omega
              · have E48 : ((((d[0]'hd0).toNat : Int)) == 48) = false := by simpa using (show ¬ ((d[0]'hd0).toNat : Int) = 48 by omega)
                have HEND : Hid (nought T.data.toList = d.data.toList) := by
                  show _ = _
                  rw [← HND.out]
                  exact nought_end _ (by rw [d_cons d hd0]; simp) (.inr (by rw [d_cons d hd0]; intro e; injection e with e; exact h48 (by rw [e]; rfl)))
                clear h48
                have hnn : nought (strip T.data.toList) = d.data.toList := by rw [← HTL.out]; exact HEND.out
                have HE : Hid ((⟨(numOf T.data.toList).toArray⟩ : ByteArray) = d) := by
                  show _ = _
                  rw [numOf_is, HLO.out, Bool.false_and, if_neg (by decide), hnn, Lib.mk_data]
                clear hnn
                go_wp2_with fail
                refine bodyPost_ret (results_tmp2 rfl _ _ _) rfl ?_
                exact ⟨by rw [HNY.out, if_pos rfl, HE.out]; rfl, rfl⟩
            · have q1 : decide (1 < (d.size : Int)) = false := decide_eq_false (by omega)
              have HEND : Hid (nought T.data.toList = d.data.toList) := by
                show _ = _
                rw [← HND.out]
                exact nought_end _ (by rw [d_cons d hd0]; simp) (.inl (by rw [← Lib.size_eq]; omega))
              have hnn : nought (strip T.data.toList) = d.data.toList := by rw [← HTL.out]; exact HEND.out
              have HE : Hid ((⟨(numOf T.data.toList).toArray⟩ : ByteArray) = d) := by
                show _ = _
                rw [numOf_is, HLO.out, Bool.false_and, if_neg (by decide), hnn, Lib.mk_data]
              clear hnn
              go_wp2_with fail
              refine bodyPost_ret (results_tmp2 rfl _ _ _) rfl ?_
              exact ⟨by rw [HNY.out, if_pos rfl, HE.out]; rfl, rfl⟩
    · have hTn : T.data.toList = [] := List.eq_nil_of_length_eq_zero (by rw [← Lib.size_eq]; exact hT0)
      have e1 : T.toList.isEmpty = true := by rw [Lib.toList_data, hTn]; rfl
      have HNN : Hid (isNum T.data.toList = false) := by
        show _ = _
        unfold isNum
        rw [← HTL.out, hTn]; rfl
      clear hTn hT0
      go_wp2_with fail
      refine bodyPost_ret (results_tmp2 rfl _ _ _) rfl ?_
      exact ⟨by rw [HNN.out]; rfl, rfl⟩
end Go.Proofs.YtahdiknkcgnieaaDoor
