/- The contract of token. -/
import Derived.Test.YtkjcbaikebdmmaaDoorL5
namespace Go.Proofs.YtkjcbaikebdmmaaDoor
open Go.RowKit Go.BigM
set_option linter.unusedVariables false
set_option linter.unusedSimpArgs false

/-- The datum, no list, that a text begins with. -/
def tokOf (l : List UInt8) : Option (Int × ByteArray × Nat) :=
  if Lib.hasPrefix l [35] then (boolOf l).map (fun t => (2, t, 2))
  else if rowOf sset l = 0 then none
  else if isNum (l.take (rowOf sset l)) then (if Canon (numOf (l.take (rowOf sset l))) then some (1, ⟨(numOf (l.take (rowOf sset l))).toArray⟩, rowOf sset l) else none)
  else if 0 < rowOf dset (l.take (rowOf sset l)) then none
  else some (3, ⟨(l.take (rowOf sset l)).toArray⟩, rowOf sset l)
theorem tok_cells (r : Option (Int × ByteArray × Nat)) : ∃ k t, tokCells r = #[.int .i64 k, .string t, .slice none 0 0, .slice none 0 0, .int .i64 0] := by
  rcases r with _ | ⟨k, t, n⟩
  · exact ⟨_, _, rfl⟩
  · exact ⟨_, _, rfl⟩
theorem rowB {w w' : World} (h : Below w.heap.size w w') {g : Nat} {c : Array Value} {T : TypeId} {fz : Nat × Nat} (hg : w.heap[g]? = some (.cells c T fz)) : w'.heap[g]? = some (.cells c T fz) := by
  rw [h.block g (Array.getElem?_eq_some_iff.1 hg).1]; exact hg

set_option maxHeartbeats 4000000 in
set_option maxRecDepth 100000 in
theorem token_any (s : ByteArray) (w : World) (hs : s.size ≤ 8000) : Calls Tryd.prog 33 #[.string s] w (RetTok (tokOf s.data.toList) w) := by
  have hW := alloc_at w (.cells Z5 40)
  have hB : Below w.heap.size w (w.alloc (.cells Z5 40)) := (Below.refl _ _).alloc (Nat.le_refl _) _
  have FH0 := fun w => has_any s ⟨#[35]⟩ w
  obtain ⟨b, hb⟩ : ∃ b, b = Lib.hasPrefix s.data.toList [35] := ⟨_, rfl⟩
  have FH : Hid (∀ w, Calls Tryd.prog 43 #[.string s, .string ⟨#[35]⟩] w fun e w' => e = .returned (.bool b) ∧ w = w') := by rw [hb]; exact FH0
  clear FH0
  have HBB := Lib.hid hb
  clear hb
  go_enter Tryd.func33, Tryd.ntmps33
  go_wp2_with fail
  change Calls Tryd.prog 43 _ (w.alloc (.cells Z5 40)) _
  have hsz : w.heap.size < (w.alloc (.cells Z5 40)).heap.size := by simp
  generalize w.alloc (.cells Z5 40) = W at hW hB hsz ⊢
  have HW := Lib.hid hW
  have HB := Lib.hid hB
  clear hW hB
  refine (FH.out _).mono ?_
  rintro e w' ⟨rfl, rfl⟩
  cases b with
  | true =>
    have HE : Hid (tokOf s.data.toList = (boolOf s.data.toList).map (fun t => (2, t, 2))) := by show _ = _; unfold tokOf; rw [← HBB.out, if_pos rfl]
    go_wp2_with fail
    refine (boolean_any s _ hs).mono ?_
    rintro e w2 ⟨rfl, hb2⟩
    obtain ⟨kk, tt, htc⟩ := tok_cells ((boolOf s.data.toList).map (fun t => ((2 : Int), t, 2)))
    rw [htc]
    have z1 : (#[.int .i64 kk, .string tt, .slice none 0 0, .slice none 0 0, .int .i64 0] : Array Value).all (·.oneCell') = true := by simp [Value.oneCell']
    have H2 := rowB hb2 HW.out
    have HX := Lib.hid (setRow_heap w2 w.heap.size _ #[.int .i64 kk, .string tt, .slice none 0 0, .slice none 0 0, .int .i64 0] 40 _ H2)
    have HB2 := Lib.hid (below_setRowB (HB.out.trans (hb2.mono HB.out.size)) w.heap.size #[.int .i64 kk, .string tt, .slice none 0 0, .slice none 0 0, .int .i64 0] (Nat.le_refl _))
    have H2 := Lib.hid H2
    have HTC := Lib.hid htc
    obtain ⟨ln, hln⟩ : ∃ ln, ln = tokLong ((boolOf s.data.toList).map (fun t => ((2 : Int), t, 2))) := ⟨_, rfl⟩
    rw [← hln]
    have HLN := Lib.hid hln
    clear hb2 htc hln
    go_wp2_with (refine wpList_store_row rfl 40 _ _ rfl w.heap.size #[.int .i64 kk, .string tt, .slice none 0 0, .slice none 0 0, .int .i64 0] rfl rfl 40 Z5 H2.out info40 rfl z1 ?_)
    refine bodyPost_ret (results_row2 rfl _ _ w.heap.size 40 #[.int .i64 kk, .string tt, .slice none 0 0, .slice none 0 0, .int .i64 0] (0, 0) _ (.int .i64 ln) rfl HX.out Tryd.underlying40 rfl info40 rfl) rfl ?_
    exact ⟨by rw [HE.out, HTC.out, HLN.out], HB2.out⟩
  | false =>
    have e1 : (⟨sset.toArray⟩ : ByteArray).data.toList = sset := rfl
    have FR0 := fun w => row_any s ⟨sset.toArray⟩ w hs
    rw [e1] at FR0
    have hrl := rowOf_le sset s.data.toList
    obtain ⟨n, hn⟩ : ∃ n, n = rowOf sset s.data.toList := ⟨_, rfl⟩
    rw [← hn] at FR0 hrl
    have hns : n ≤ s.size := by rw [Lib.size_eq]; exact hrl
    have FR := Lib.hid FR0
    obtain ⟨X, hX⟩ : ∃ X, X = s.extract 0 n := ⟨_, rfl⟩
    have hXl : X.data.toList = s.data.toList.take n := by rw [hX, Lib.extract_eq]; simp
    have hXs : X.size = n := by rw [Lib.size_eq, hXl, List.length_take]; omega
    have HXE := Lib.hid hX
    have hXz : X.size ≤ 8000 := by omega
    have HE0 : Hid (tokOf s.data.toList = if n = 0 then none else if isNum X.data.toList then (if Canon (numOf X.data.toList) then some (1, ⟨(numOf X.data.toList).toArray⟩, n) else none) else if 0 < rowOf dset X.data.toList then none else some (3, X, n)) := by
      show _ = _
      unfold tokOf
      rw [← HBB.out, if_neg (by decide), ← hn, ← hXl, Lib.mk_data]
    clear hn hrl FR0 e1 hX hXl
    go_wp2_with fail
    refine (FR.out _).mono ?_
    rintro e w' ⟨rfl, rfl⟩
    go_wp2_with fail
    rw [← HXE.out]
    refine (clone_any X _ hXz).mono ?_
    rintro e w2 ⟨rfl, hb2⟩
    have H2 := Lib.hid (rowB hb2 HW.out)
    have HB2 := Lib.hid (HB.out.trans (hb2.mono HB.out.size))
    clear hb2 HW
    have zz : Z5.all (·.oneCell') = true := by simp [Z5, Value.oneCell']
    have HXZ := Lib.hid (setRow_heap w2 w.heap.size _ Z5 40 _ H2.out)
    by_cases h0 : n = 0
    · have q : ((n : Int) == 0) = true := by rw [beq_iff_eq]; omega
      have HE : Hid (tokOf s.data.toList = none) := by show _ = _; rw [HE0.out, if_pos h0]
      clear hXs HE0
      go_wp2_with (refine wpList_store_row rfl 40 _ _ rfl w.heap.size Z5 rfl rfl 40 Z5 H2.out info40 rfl zz ?_)
      refine bodyPost_ret (results_row2 rfl _ _ w.heap.size 40 Z5 (0, 0) _ (.int .i64 0) rfl HXZ.out Tryd.underlying40 rfl info40 rfl) rfl ?_
      exact ⟨by rw [HE.out]; rfl, below_setRowB HB2.out _ _ (Nat.le_refl _)⟩
    · have q : ((n : Int) == 0) = false := by rw [beq_eq_false_iff_ne]; omega
      have hX0 : 0 < X.size := by omega
      obtain ⟨bn, hbn⟩ : ∃ b, b = isNum X.data.toList := ⟨_, rfl⟩
      have FN : Hid (∀ w, Calls Tryd.prog 47 #[.string X] w fun e w' => e = .returned (.bool bn) ∧ w = w') := by rw [hbn]; exact fun w => numeral_any X w hXz
      have HE1 := HE0.out
      rw [if_neg h0, ← hbn] at HE1
      replace HE1 := Lib.hid HE1
      clear hbn hXs HE0
      cases bn with
      | true =>
        obtain ⟨Y, hY⟩ : ∃ Y : ByteArray, Y = ⟨(numOf X.data.toList).toArray⟩ := ⟨_, rfl⟩
        have hYl : Y.data.toList = numOf X.data.toList := by rw [hY]
        have hYz : Y.size ≤ 8000 := by
          have h1 : (numOf X.data.toList).length ≤ X.data.toList.length := by
            unfold numOf
            have h2 : ((strip X.data.toList).dropWhile (· == 48)).length ≤ (strip X.data.toList).length := (List.dropWhile_suffix _).length_le
            have h3 := strip_le X.data.toList
            have hxl : 0 < X.data.toList.length := by rw [← Lib.size_eq]; exact hX0
            split
            · simp; omega
            · split
              · rename_i hlow
                rw [strip_low _ hlow] at h2 ⊢
                simp only [List.length_cons]
                have : X.data.toList.tail.length = X.data.toList.length - 1 := by simp
                omega
              · omega
          rw [Lib.size_eq, hYl]
          rw [Lib.size_eq] at hXz
          omega
        have FM : Hid (∀ w, Calls Tryd.prog 48 #[.string X] w fun e w' => e = .returned (.string Y) ∧ w = w') := by rw [hY]; exact fun w => number_any X w hXz hX0
        obtain ⟨bc, hbc⟩ : ∃ b, b = decide (Canon Y.data.toList) := ⟨_, rfl⟩
        have FC : Hid (∀ w, Calls Tryd.prog 49 #[.string Y] w fun e w' => e = .returned (.bool bc) ∧ w = w') := by rw [hbc]; exact fun w => right_any Y w hYz
        have HE2 := HE1.out
        rw [if_pos rfl, ← hYl, Lib.mk_data] at HE2
        replace HE2 := Lib.hid HE2
        have HBC := Lib.hid hbc
        clear hbc hY hYl HE1
        cases bc with
        | true =>
          have hcan : Canon Y.data.toList := of_decide_eq_true HBC.out.symm
          have HE : Hid (tokOf s.data.toList = some (1, Y, n)) := by show _ = _; rw [HE2.out, if_pos hcan]
          have z1 : (#[.int .i64 1, .string Y, .slice none 0 0, .slice none 0 0, .int .i64 0] : Array Value).all (·.oneCell') = true := by simp [Value.oneCell']
          have HX := Lib.hid (setRow_heap w2 w.heap.size _ #[.int .i64 1, .string Y, .slice none 0 0, .slice none 0 0, .int .i64 0] 40 _ H2.out)
          clear hcan HE2
          go_wp2_with fail
          refine (FN.out _).mono ?_
          rintro e w' ⟨rfl, rfl⟩
          go_wp2_with fail
          refine (FM.out _).mono ?_
          rintro e w' ⟨rfl, rfl⟩
          go_wp2_with fail
          refine (FC.out _).mono ?_
          rintro e w' ⟨rfl, rfl⟩
          go_wp2_with (refine wpList_store_row rfl 40 _ _ rfl w.heap.size #[.int .i64 1, .string Y, .slice none 0 0, .slice none 0 0, .int .i64 0] rfl rfl 40 Z5 H2.out info40 rfl z1 ?_)
          refine bodyPost_ret (results_row2 rfl _ _ w.heap.size 40 #[.int .i64 1, .string Y, .slice none 0 0, .slice none 0 0, .int .i64 0] (0, 0) _ (.int .i64 n) rfl HX.out Tryd.underlying40 rfl info40 rfl) rfl ?_
          exact ⟨by rw [HE.out]; rfl, below_setRowB HB2.out _ _ (Nat.le_refl _)⟩
        | false =>
          have hcan : ¬ Canon Y.data.toList := of_decide_eq_false HBC.out.symm
          have HE : Hid (tokOf s.data.toList = none) := by show _ = _; rw [HE2.out, if_neg hcan]
          clear hcan HE2
          go_wp2_with fail
          refine (FN.out _).mono ?_
          rintro e w' ⟨rfl, rfl⟩
          go_wp2_with fail
          refine (FM.out _).mono ?_
          rintro e w' ⟨rfl, rfl⟩
          go_wp2_with fail
          refine (FC.out _).mono ?_
          rintro e w' ⟨rfl, rfl⟩
          go_wp2_with (refine wpList_store_row rfl 40 _ _ rfl w.heap.size Z5 rfl rfl 40 Z5 H2.out info40 rfl zz ?_)
          refine bodyPost_ret (results_row2 rfl _ _ w.heap.size 40 Z5 (0, 0) _ (.int .i64 0) rfl HXZ.out Tryd.underlying40 rfl info40 rfl) rfl ?_
          exact ⟨by rw [HE.out]; rfl, below_setRowB HB2.out _ _ (Nat.le_refl _)⟩
      | false =>
        have e1 : (⟨dset.toArray⟩ : ByteArray).data.toList = dset := rfl
        have FR0 := fun w => row_any X ⟨dset.toArray⟩ w hXz
        rw [e1] at FR0
        obtain ⟨m, hm⟩ : ∃ m, m = rowOf dset X.data.toList := ⟨_, rfl⟩
        rw [← hm] at FR0
        have FD := Lib.hid FR0
        have HE2 := HE1.out
        rw [if_neg (by decide), ← hm] at HE2
        replace HE2 := Lib.hid HE2
        clear hm FR0 e1 HE1
        by_cases hm0 : 0 < m
        · have HE : Hid (tokOf s.data.toList = none) := by show _ = _; rw [HE2.out, if_pos hm0]
          clear HE2
          go_wp2_with fail
          refine (FN.out _).mono ?_
          rintro e w' ⟨rfl, rfl⟩
          go_wp2_with fail
          refine (FD.out _).mono ?_
          rintro e w' ⟨rfl, rfl⟩
          go_wp2_with (refine wpList_store_row rfl 40 _ _ rfl w.heap.size Z5 rfl rfl 40 Z5 H2.out info40 rfl zz ?_)
          refine bodyPost_ret (results_row2 rfl _ _ w.heap.size 40 Z5 (0, 0) _ (.int .i64 0) rfl HXZ.out Tryd.underlying40 rfl info40 rfl) rfl ?_
          exact ⟨by rw [HE.out]; rfl, below_setRowB HB2.out _ _ (Nat.le_refl _)⟩
        · have HE : Hid (tokOf s.data.toList = some (3, X, n)) := by show _ = _; rw [HE2.out, if_neg hm0]
          have z1 : (#[.int .i64 3, .string X, .slice none 0 0, .slice none 0 0, .int .i64 0] : Array Value).all (·.oneCell') = true := by simp [Value.oneCell']
          have HX := Lib.hid (setRow_heap w2 w.heap.size _ #[.int .i64 3, .string X, .slice none 0 0, .slice none 0 0, .int .i64 0] 40 _ H2.out)
          clear HE2
          go_wp2_with fail
          refine (FN.out _).mono ?_
          rintro e w' ⟨rfl, rfl⟩
          go_wp2_with fail
          refine (FD.out _).mono ?_
          rintro e w' ⟨rfl, rfl⟩
          go_wp2_with (refine wpList_store_row rfl 40 _ _ rfl w.heap.size #[.int .i64 3, .string X, .slice none 0 0, .slice none 0 0, .int .i64 0] rfl rfl 40 Z5 H2.out info40 rfl z1 ?_)
          refine bodyPost_ret (results_row2 rfl _ _ w.heap.size 40 #[.int .i64 3, .string X, .slice none 0 0, .slice none 0 0, .int .i64 0] (0, 0) _ (.int .i64 n) rfl HX.out Tryd.underlying40 rfl info40 rfl) rfl ?_
          exact ⟨by rw [HE.out]; rfl, below_setRowB HB2.out _ _ (Nat.le_refl _)⟩
end Go.Proofs.YtkjcbaikebdmmaaDoor
