/- The contracts of textRight, namesRight, partsRight. -/
import Derived.Test.YtcalbcllmmoldaaBX
namespace Go.Proofs.Ytcalbcllmmoldaa
open Go.RowKit Go.BigM
set_option linter.unusedVariables false
set_option linter.unusedSimpArgs false
def num (s : ByteArray) : Bool := decide (Canon s.data.toList)
theorem isEmpty_eq (t : ByteArray) : t.toList.isEmpty = (t.toList == []) := by
  rw [Lib.toList_data]
  cases t.data.toList <;> rfl
set_option maxHeartbeats 4000000 in
set_option maxRecDepth 100000 in
theorem textRight_any (k : Int) (t : ByteArray) (nv av : Value) (w : World) (ht : t.size ≤ 5000) (h1 : nv.oneCell' = true) (h2 : av.oneCell' = true) :
    Calls Try.prog 36 #[.agg #[.int .i64 k, .string t, nv, av]] w (RetBool (textB num k t) w) := by
  have HB := Lib.hid ((Below.refl w.heap.size w).alloc (Nat.le_refl _) (.cells #[.int .i64 k, .string t, nv, av] 28))
  by_cases q1 : k = 1
  · subst q1
    have HR := Lib.hid (fun w => right_any t w ht)
    have HE : Hid (textB num 1 t = decide (Canon t.data.toList)) := by show _ = _; simp [textB, num]
    go_enter Try.func36, Try.ntmps36
    go_wp2_with fail
    refine (HR.out _).mono ?_
    rintro e w1 ⟨rfl, rfl⟩
    go_wp2_with fail
    go_ret
    exact ⟨by rw [HE.out]; rfl, HB.out⟩
  by_cases q2 : k = 2
  · subst q2
    obtain ⟨b1, hb1⟩ : ∃ b, (t.toList == [35, 116]) = b := ⟨_, rfl⟩
    obtain ⟨b2, hb2⟩ : ∃ b, (t.toList == [35, 102]) = b := ⟨_, rfl⟩
    have HE : Hid (textB num 2 t = (b1 || b2)) := by show _ = _; simp [textB, hb1, hb2]
    cases b1
    · go_enter Try.func36, Try.ntmps36
      go_wp2_with fail
      go_ret
      exact ⟨by rw [HE.out]; rfl, HB.out⟩
    · go_enter Try.func36, Try.ntmps36
      go_wp2_with fail
      go_ret
      exact ⟨by rw [HE.out]; rfl, HB.out⟩
  by_cases q3 : k = 3
  · subst q3
    obtain ⟨b1, hb1⟩ : ∃ b, t.toList.isEmpty = b := ⟨_, rfl⟩
    have HE : Hid (textB num 3 t = b1) := by show _ = _; simp [textB, hb1]
    have hb2 : (t.toList == []) = b1 := by rw [← isEmpty_eq]; exact hb1
    go_enter Try.func36, Try.ntmps36
    go_wp2_with fail
    go_ret
    exact ⟨by rw [HE.out]; first | rfl | (rw [← hb1]; rfl) | (rw [← hb2]; rfl), HB.out⟩
  by_cases q4 : k = 4
  · subst q4
    obtain ⟨b1, hb1⟩ : ∃ b, t.toList.isEmpty = b := ⟨_, rfl⟩
    have HE : Hid (textB num 4 t = !b1) := by show _ = _; simp [textB, hb1]
    have hb2 : (t.toList == []) = b1 := by rw [← isEmpty_eq]; exact hb1
    go_enter Try.func36, Try.ntmps36
    go_wp2_with fail
    go_ret
    exact ⟨by rw [HE.out]; first | rfl | (rw [← hb1]; rfl) | (rw [← hb2]; rfl), HB.out⟩
  by_cases q5 : k = 5
  · subst q5
    obtain ⟨b1, hb1⟩ : ∃ b, t.toList.isEmpty = b := ⟨_, rfl⟩
    have HE : Hid (textB num 5 t = !b1) := by show _ = _; simp [textB, hb1]
    have hb2 : (t.toList == []) = b1 := by rw [← isEmpty_eq]; exact hb1
    go_enter Try.func36, Try.ntmps36
    go_wp2_with fail
    go_ret
    exact ⟨by rw [HE.out]; first | rfl | (rw [← hb1]; rfl) | (rw [← hb2]; rfl), HB.out⟩
  by_cases q6 : k = 6
  · subst q6
    obtain ⟨b1, hb1⟩ : ∃ b, t.toList.isEmpty = b := ⟨_, rfl⟩
    have HE : Hid (textB num 6 t = b1) := by show _ = _; simp [textB, hb1]
    have hb2 : (t.toList == []) = b1 := by rw [← isEmpty_eq]; exact hb1
    go_enter Try.func36, Try.ntmps36
    go_wp2_with fail
    go_ret
    exact ⟨by rw [HE.out]; first | rfl | (rw [← hb1]; rfl) | (rw [← hb2]; rfl), HB.out⟩
  by_cases q7 : k = 7
  · subst q7
    obtain ⟨b1, hb1⟩ : ∃ b, t.toList.isEmpty = b := ⟨_, rfl⟩
    have HE : Hid (textB num 7 t = b1) := by show _ = _; simp [textB, hb1]
    have hb2 : (t.toList == []) = b1 := by rw [← isEmpty_eq]; exact hb1
    go_enter Try.func36, Try.ntmps36
    go_wp2_with fail
    go_ret
    exact ⟨by rw [HE.out]; first | rfl | (rw [← hb1]; rfl) | (rw [← hb2]; rfl), HB.out⟩
  by_cases q8 : k = 8
  · subst q8
    obtain ⟨b1, hb1⟩ : ∃ b, t.toList.isEmpty = b := ⟨_, rfl⟩
    have HE : Hid (textB num 8 t = b1) := by show _ = _; simp [textB, hb1]
    have hb2 : (t.toList == []) = b1 := by rw [← isEmpty_eq]; exact hb1
    go_enter Try.func36, Try.ntmps36
    go_wp2_with fail
    go_ret
    exact ⟨by rw [HE.out]; first | rfl | (rw [← hb1]; rfl) | (rw [← hb2]; rfl), HB.out⟩
  by_cases q9 : k = 9
  · subst q9
    obtain ⟨b1, hb1⟩ : ∃ b, t.toList.isEmpty = b := ⟨_, rfl⟩
    have HE : Hid (textB num 9 t = b1) := by show _ = _; simp [textB, hb1]
    have hb2 : (t.toList == []) = b1 := by rw [← isEmpty_eq]; exact hb1
    go_enter Try.func36, Try.ntmps36
    go_wp2_with fail
    go_ret
    exact ⟨by rw [HE.out]; first | rfl | (rw [← hb1]; rfl) | (rw [← hb2]; rfl), HB.out⟩
  by_cases q10 : k = 10
  · subst q10
    have HA := Lib.hid (fun w => arity_any t w)
    obtain ⟨n, hn⟩ : ∃ n, arity t = n := ⟨_, rfl⟩
    have HE : Hid (textB num 10 t = decide (0 < n)) := by show _ = _; simp [textB, hn]
    unfold RetSame at HA
    rw [hn] at HA
    clear hn
    go_enter Try.func36, Try.ntmps36
    go_wp2_with fail
    refine (HA.out _).mono ?_
    rintro e w1 ⟨rfl, rfl⟩
    go_wp2_with fail
    go_ret
    exact ⟨by rw [HE.out]; rfl, HB.out⟩
  have p1 : (k == 1) = false := by rw [beq_eq_false_iff_ne]; exact q1
  have p2 : (k == 2) = false := by rw [beq_eq_false_iff_ne]; exact q2
  have p3 : (k == 3) = false := by rw [beq_eq_false_iff_ne]; exact q3
  have p4 : (k == 4) = false := by rw [beq_eq_false_iff_ne]; exact q4
  have p5 : (k == 5) = false := by rw [beq_eq_false_iff_ne]; exact q5
  have p6 : (k == 6) = false := by rw [beq_eq_false_iff_ne]; exact q6
  have p7 : (k == 7) = false := by rw [beq_eq_false_iff_ne]; exact q7
  have p8 : (k == 8) = false := by rw [beq_eq_false_iff_ne]; exact q8
  have p9 : (k == 9) = false := by rw [beq_eq_false_iff_ne]; exact q9
  have p10 : (k == 10) = false := by rw [beq_eq_false_iff_ne]; exact q10
  have HE : Hid (textB num k t = false) := by show _ = _; simp [textB, q1, q2, q3, q4, q5, q6, q7, q8, q9, q10]
  clear q1 q2 q3 q4 q5 q6 q7 q8 q9 q10
  go_enter Try.func36, Try.ntmps36
  go_wp2_with fail
  go_ret
  exact ⟨by rw [HE.out]; rfl, HB.out⟩
set_option maxHeartbeats 4000000 in
set_option maxRecDepth 100000 in
theorem namesRight_any (k : Int) (t : ByteArray) (ns : List ByteArray) (S : Nat → Prop) (nv av : Value) (w : World) (h : NAt S w nv ns) (hn : ns.length ≤ 1000) (hs : ∀ s ∈ ns, s.size ≤ 1000000) (h2 : av.oneCell' = true) :
    Calls Try.prog 37 #[.agg #[.int .i64 k, .string t, nv, av]] w (RetBool (namesB k ns) w) := by
  have hb0 := (Below.refl w.heap.size w).alloc (Nat.le_refl _) (.cells #[.int .i64 k, .string t, nv, av] 28)
  have HB := Lib.hid hb0
  have HAP := Lib.hid (apart_any ns S nv _ (h.keeps (Keeps.of_below hb0)) hn hs)
  obtain ⟨ao, cap, rfl⟩ := h.form
  clear h hb0
  by_cases q6 : k = 6
  · subst q6
    by_cases hz : 0 < ns.length
    · have q1 : decide ((0 : Int) < (ns.length : Int)) = true := decide_eq_true (by omega)
      have HE : Hid (namesB 6 ns = decide (Once ns)) := by show _ = _; simp [namesB, hz]
      go_enter Try.func37, Try.ntmps37
      go_wp2_with fail
      refine HAP.out.mono ?_
      rintro e w1 ⟨rfl, hb⟩
      have HC := Lib.hid (HB.out.trans (hb.mono HB.out.size))
      clear hb
      go_wp2_with fail
      go_ret
      exact ⟨by rw [HE.out]; rfl, HC.out⟩
    · have q1 : decide ((0 : Int) < (ns.length : Int)) = false := decide_eq_false (by omega)
      have HE : Hid (namesB 6 ns = false) := by show _ = _; simp [namesB, hz]
      go_enter Try.func37, Try.ntmps37
      go_wp2_with fail
      go_ret
      exact ⟨by rw [HE.out]; rfl, HB.out⟩
  by_cases q9 : k = 9
  · subst q9
    by_cases hz : 0 < ns.length
    · have q1 : decide ((0 : Int) < (ns.length : Int)) = true := decide_eq_true (by omega)
      have HE : Hid (namesB 9 ns = decide (Once ns)) := by show _ = _; simp [namesB, hz]
      go_enter Try.func37, Try.ntmps37
      go_wp2_with fail
      refine HAP.out.mono ?_
      rintro e w1 ⟨rfl, hb⟩
      have HC := Lib.hid (HB.out.trans (hb.mono HB.out.size))
      clear hb
      go_wp2_with fail
      go_ret
      exact ⟨by rw [HE.out]; rfl, HC.out⟩
    · have q1 : decide ((0 : Int) < (ns.length : Int)) = false := decide_eq_false (by omega)
      have HE : Hid (namesB 9 ns = false) := by show _ = _; simp [namesB, hz]
      go_enter Try.func37, Try.ntmps37
      go_wp2_with fail
      go_ret
      exact ⟨by rw [HE.out]; rfl, HB.out⟩
  have p6 : (k == 6) = false := by rw [beq_eq_false_iff_ne]; exact q6
  have p9 : (k == 9) = false := by rw [beq_eq_false_iff_ne]; exact q9
  obtain ⟨b, hbb⟩ : ∃ b, ((ns.length : Int) == 0) = b := ⟨_, rfl⟩
  have HE : Hid (namesB k ns = b) := by
    show _ = _
    rw [← hbb]
    simp only [namesB, q6, q9, or_self, if_false]
    rw [Bool.eq_iff_iff, decide_eq_true_iff, beq_iff_eq]; omega
  clear q6 q9
  go_enter Try.func37, Try.ntmps37
  go_wp2_with fail
  go_ret
  exact ⟨by rw [HE.out]; rfl, HB.out⟩
set_option maxHeartbeats 4000000 in
set_option maxRecDepth 100000 in
theorem partsRight_any (k : Int) (t : ByteArray) (m n : Nat) (ao bo : Option Addr) (mc nc : Nat) (w : World) (hm : m ≤ 100000) (hn : n ≤ 100000) :
    Calls Try.prog 38 #[.agg #[.int .i64 k, .string t, .slice ao m mc, .slice bo n nc]] w (RetBool (partsB k t m n) w) := by
  have HB := Lib.hid ((Below.refl w.heap.size w).alloc (Nat.le_refl _) (.cells #[.int .i64 k, .string t, .slice ao m mc, .slice bo n nc] 28))
  by_cases q6 : k = 6
  · subst q6
    obtain ⟨b, hbb⟩ : ∃ b, ((n : Int) == 1) = b := ⟨_, rfl⟩
    have HE : Hid (partsB 6 t m n = b) := by
      show _ = _
      rw [← hbb, Bool.eq_iff_iff]
      simp [partsB]
      try omega
    go_enter Try.func38, Try.ntmps38
    go_wp2_with fail
    go_ret
    exact ⟨by rw [HE.out]; rfl, HB.out⟩
  by_cases q7 : k = 7
  · subst q7
    obtain ⟨b, hbb⟩ : ∃ b, decide (2 ≤ (n : Int)) = b := ⟨_, rfl⟩
    have HE : Hid (partsB 7 t m n = b) := by
      show _ = _
      rw [← hbb, Bool.eq_iff_iff]
      simp [partsB]
      try omega
    go_enter Try.func38, Try.ntmps38
    go_wp2_with fail
    go_ret
    exact ⟨by rw [HE.out]; rfl, HB.out⟩
  by_cases q8 : k = 8
  · subst q8
    obtain ⟨b, hbb⟩ : ∃ b, ((n : Int) == 3) = b := ⟨_, rfl⟩
    have HE : Hid (partsB 8 t m n = b) := by
      show _ = _
      rw [← hbb, Bool.eq_iff_iff]
      simp [partsB]
      try omega
    go_enter Try.func38, Try.ntmps38
    go_wp2_with fail
    go_ret
    exact ⟨by rw [HE.out]; rfl, HB.out⟩
  by_cases q9 : k = 9
  · subst q9
    obtain ⟨b, hbb⟩ : ∃ b, ((n : Int) == (m : Int) + 1) = b := ⟨_, rfl⟩
    have HE : Hid (partsB 9 t m n = b) := by
      show _ = _
      rw [← hbb, Bool.eq_iff_iff]
      simp [partsB]
      try omega
    go_enter Try.func38, Try.ntmps38
    go_wp2_with fail
    go_ret
    exact ⟨by rw [HE.out]; rfl, HB.out⟩
  by_cases q10 : k = 10
  · subst q10
    obtain ⟨a, ha⟩ : ∃ a, arity t = a := ⟨_, rfl⟩
    have HA := Lib.hid (fun w => arity_any t w)
    unfold RetSame at HA
    rw [ha] at HA
    obtain ⟨b, hbb⟩ : ∃ b, ((n : Int) == (a : Int)) = b := ⟨_, rfl⟩
    have HE : Hid (partsB 10 t m n = b) := by
      show _ = _
      rw [← hbb, Bool.eq_iff_iff]
      simp [partsB, ha]
      try omega
    clear ha
    go_enter Try.func38, Try.ntmps38
    go_upto_region 11 with fail
    go_quiet (first | (go_at_call 17; exact Calls.quiet_of_same ((HA.out _).mono fun _ _ h => ⟨h.1, h.2.symm⟩)))
    go_wp2_with fail
    go_ret
    exact ⟨by rw [HE.out]; rfl, HB.out.trans ⟨rfl, rfl, rfl, Nat.le_refl _, fun _ _ => rfl⟩⟩
  have p6 : (k == 6) = false := by rw [beq_eq_false_iff_ne]; exact q6
  have p7 : (k == 7) = false := by rw [beq_eq_false_iff_ne]; exact q7
  have p8 : (k == 8) = false := by rw [beq_eq_false_iff_ne]; exact q8
  have p9 : (k == 9) = false := by rw [beq_eq_false_iff_ne]; exact q9
  have p10 : (k == 10) = false := by rw [beq_eq_false_iff_ne]; exact q10
  obtain ⟨b, hbb⟩ : ∃ b, ((n : Int) == 0) = b := ⟨_, rfl⟩
  have HE : Hid (partsB k t m n = b) := by
    show _ = _
    rw [← hbb]
    simp only [partsB, q6, q7, q8, q9, q10, if_false]
    rw [Bool.eq_iff_iff, decide_eq_true_iff, beq_iff_eq]; omega
  clear q6 q7 q8 q9 q10
  go_enter Try.func38, Try.ntmps38
  go_wp2_with fail
  go_ret
  exact ⟨by rw [HE.out]; rfl, HB.out⟩
end Go.Proofs.Ytcalbcllmmoldaa
