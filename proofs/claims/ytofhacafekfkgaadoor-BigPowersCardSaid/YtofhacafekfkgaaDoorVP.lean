/- The walk of BigPowers: whatever the number, true. -/
import Derived.Test.YtofhacafekfkgaaDoorRV
namespace Go.Proofs.YtofhacafekfkgaaDoor
open Go.RowKit Go.BigM
set_option linter.unusedVariables false
set_option linter.unusedSimpArgs false
def PwInv (z : Int) (k n : Nat) (w : World) (f : Nat → Nat) (sv iv : Value) (wr : World) : Prop :=
  ∃ (i : Nat) (s : ByteArray), i ≤ k ∧ iv = .int .i64 (i : Int) ∧ sv = .string s ∧ Is s (z ^ (f i)) ∧ Below n w wr
theorem is_lit {s : ByteArray} {z : Int} (h : Canon s.data.toList) (he : ival s.data.toList = z) : Is s z := he ▸ Is.of s h
set_option maxHeartbeats 8000000 in
set_option maxRecDepth 100000 in
theorem powers_walk (a0 : Int) (a1 : Bool) (w : World) (hI0 : I64 a0) :
    Calls Tryd.prog 10 #[.int .i64 a0, .bool a1] w fun e w' => e = .returned (.bool true) ∧ Below w.heap.size w w' := by
  have hI := Lib.hid hI0
  have BB := Lib.hid (Below.refl w.heap.size w)
  clear hI0
  go_enter Tryd.func10, Tryd.ntmps10
  go_wp2_with (go_at_call 13; refine (known_any _).mono ?_; rintro e w1 ⟨rfl, hb⟩; replace BB := Lib.hid (BB.out.trans (hb.mono BB.out.size)); clear hb)
  refine (within_some a0 300 hI.out (by decide) (by decide) _).mono ?_
  rintro e w1 ⟨k, hk, rfl, rfl⟩
  cases a1
  · skip
    have I2 : Is ⟨#[50]⟩ (2) := is_lit (by decide) (by decide)
    have H0 : Hid (PwInv (2) k w.heap.size w (fun i => i) (.string ⟨#[49]⟩) (.int .i64 0) w1) := ⟨0, ⟨#[49]⟩, Nat.zero_le _, rfl, rfl, is_lit (by decide) (by decide), BB.out⟩
    have I2H := Lib.hid I2
    clear I2
    go_wp2_with fail
    go_loopw [7, 8] (fun sv iv wr => PwInv (2) k w.heap.size w (fun i => i) sv iv wr) (fun _ iv _ => k - (intOf iv).toNat)
    case atStart => exact H0.out
    case round =>
      clear H0
      obtain ⟨i, s, hi, rfl, rfl, hs, hb⟩ := hrel
      by_cases hik : i < k
      · have q1 : decide ((i : Int) < (k : Int)) = true := decide_eq_true (by omega)
        obtain ⟨D, hD⟩ := pow_is (2) rfl (i + 1) (by omega)
        have F1 := Lib.hid (fun w => mul_v hs I2H.out (D := D) (by rw [← Int.pow_succ]; exact hD) w)
        have F2 := Lib.hid (fun w => refmul_v hs I2H.out (D := D) (by rw [← Int.pow_succ]; exact hD) w)
        have HD := Lib.hid hD
        have HB := Lib.hid hb
        clear hs hb hD
        go_wp2_with fail
        refine (F1.out _).mono ?_
        rintro e w2 ⟨rfl, hb2⟩
        replace HB := Lib.hid (HB.out.trans (hb2.mono HB.out.size))
        clear hb2
        go_wp2_with fail
        refine (F2.out _).mono ?_
        rintro e w3 ⟨rfl, hb3⟩
        replace HB := Lib.hid (HB.out.trans (hb3.mono HB.out.size))
        clear hb3
        have HR : Hid (PwInv (2) k w.heap.size w (fun i => i) (.string D) (.int .i64 ((i : Int) + 1)) w3) := ⟨i + 1, D, by omega, by go_num, rfl, HD.out, HB.out⟩
        clear F1 F2
        go_wp2_with fail
        go_roundw
        case rel => exact HR.out
        case measure => simp [intOf]; omega
      · have q1 : decide ((i : Int) < (k : Int)) = false := decide_eq_false (by omega)
        obtain rfl : i = k := by omega
        have H0 : Hid (PwInv (2) i w.heap.size w (fun j => i - j) (.string s) (.int .i64 0) wr) := ⟨0, s, Nat.zero_le _, rfl, rfl, hs, hb⟩
        clear hs hb hi hik
        go_wp2_with fail
        go_loopw [7, 13] (fun sv iv wr => PwInv (2) i w.heap.size w (fun j => i - j) sv iv wr) (fun _ iv _ => i - (intOf iv).toNat)
        case atStart => exact H0.out
        case round =>
          clear H0
          obtain ⟨j, s, hj, rfl, rfl, hs, hb⟩ := hrel
          replace hs : Is s ((2) ^ (i - j)) := hs
          by_cases hji : j < i
          · have q1 : decide ((j : Int) < (i : Int)) = true := decide_eq_true (by omega)
            obtain ⟨D, hD⟩ := pow_is (2) rfl (i - (j + 1)) (by omega)
            have e1 : i - j = (i - (j + 1)) + 1 := by omega
            rw [e1] at hs
            have hpd := pow_div (2) rfl (i - (j + 1))
            have F1 := Lib.hid (fun w => quo_v hs I2H.out (by decide) (D := D) (E := ⟨#[48]⟩) (by rw [hpd.1]; exact hD) (by rw [hpd.2]; exact Is.zero) w)
            have HD := Lib.hid hD
            have HB := Lib.hid hb
            clear hs hb hD hpd e1
            go_wp2_with fail
            refine (F1.out _).mono ?_
            rintro e w2 ⟨rfl, hb2⟩
            replace HB := Lib.hid (HB.out.trans (hb2.mono HB.out.size))
            clear hb2
            have HR : Hid (PwInv (2) i w.heap.size w (fun j => i - j) (.string D) (.int .i64 ((j : Int) + 1)) w2) := ⟨j + 1, D, by omega, by go_num, rfl, HD.out, HB.out⟩
            clear F1
            go_wp2_with fail
            go_roundw
            case rel => exact HR.out
            case measure => simp [intOf]; omega
          · have q1 : decide ((j : Int) < (i : Int)) = false := decide_eq_false (by omega)
            have e1 : i - j = 0 := by omega
            rw [e1, Int.pow_zero] at hs
            obtain rfl := hs.same (is_lit (by decide) (by decide) : Is ⟨#[49]⟩ 1)
            have HB := Lib.hid hb
            clear hs hb e1
            go_wp2_with fail
            go_ret
            exact ⟨rfl, HB.out⟩
  · skip
    have I2 : Is ⟨#[45, 50]⟩ (-2) := is_lit (by decide) (by decide)
    have H0 : Hid (PwInv (-2) k w.heap.size w (fun i => i) (.string ⟨#[49]⟩) (.int .i64 0) w1) := ⟨0, ⟨#[49]⟩, Nat.zero_le _, rfl, rfl, is_lit (by decide) (by decide), BB.out⟩
    have I2H := Lib.hid I2
    clear I2
    go_wp2_with fail
    go_loopw [7, 8] (fun sv iv wr => PwInv (-2) k w.heap.size w (fun i => i) sv iv wr) (fun _ iv _ => k - (intOf iv).toNat)
    case atStart => exact H0.out
    case round =>
      clear H0
      obtain ⟨i, s, hi, rfl, rfl, hs, hb⟩ := hrel
      by_cases hik : i < k
      · have q1 : decide ((i : Int) < (k : Int)) = true := decide_eq_true (by omega)
        obtain ⟨D, hD⟩ := pow_is (-2) rfl (i + 1) (by omega)
        have F1 := Lib.hid (fun w => mul_v hs I2H.out (D := D) (by rw [← Int.pow_succ]; exact hD) w)
        have F2 := Lib.hid (fun w => refmul_v hs I2H.out (D := D) (by rw [← Int.pow_succ]; exact hD) w)
        have HD := Lib.hid hD
        have HB := Lib.hid hb
        clear hs hb hD
        go_wp2_with fail
        refine (F1.out _).mono ?_
        rintro e w2 ⟨rfl, hb2⟩
        replace HB := Lib.hid (HB.out.trans (hb2.mono HB.out.size))
        clear hb2
        go_wp2_with fail
        refine (F2.out _).mono ?_
        rintro e w3 ⟨rfl, hb3⟩
        replace HB := Lib.hid (HB.out.trans (hb3.mono HB.out.size))
        clear hb3
        have HR : Hid (PwInv (-2) k w.heap.size w (fun i => i) (.string D) (.int .i64 ((i : Int) + 1)) w3) := ⟨i + 1, D, by omega, by go_num, rfl, HD.out, HB.out⟩
        clear F1 F2
        go_wp2_with fail
        go_roundw
        case rel => exact HR.out
        case measure => simp [intOf]; omega
      · have q1 : decide ((i : Int) < (k : Int)) = false := decide_eq_false (by omega)
        obtain rfl : i = k := by omega
        have H0 : Hid (PwInv (-2) i w.heap.size w (fun j => i - j) (.string s) (.int .i64 0) wr) := ⟨0, s, Nat.zero_le _, rfl, rfl, hs, hb⟩
        clear hs hb hi hik
        go_wp2_with fail
        go_loopw [7, 13] (fun sv iv wr => PwInv (-2) i w.heap.size w (fun j => i - j) sv iv wr) (fun _ iv _ => i - (intOf iv).toNat)
        case atStart => exact H0.out
        case round =>
          clear H0
          obtain ⟨j, s, hj, rfl, rfl, hs, hb⟩ := hrel
          replace hs : Is s ((-2) ^ (i - j)) := hs
          by_cases hji : j < i
          · have q1 : decide ((j : Int) < (i : Int)) = true := decide_eq_true (by omega)
            obtain ⟨D, hD⟩ := pow_is (-2) rfl (i - (j + 1)) (by omega)
            have e1 : i - j = (i - (j + 1)) + 1 := by omega
            rw [e1] at hs
            have hpd := pow_div (-2) rfl (i - (j + 1))
            have F1 := Lib.hid (fun w => quo_v hs I2H.out (by decide) (D := D) (E := ⟨#[48]⟩) (by rw [hpd.1]; exact hD) (by rw [hpd.2]; exact Is.zero) w)
            have HD := Lib.hid hD
            have HB := Lib.hid hb
            clear hs hb hD hpd e1
            go_wp2_with fail
            refine (F1.out _).mono ?_
            rintro e w2 ⟨rfl, hb2⟩
            replace HB := Lib.hid (HB.out.trans (hb2.mono HB.out.size))
            clear hb2
            have HR : Hid (PwInv (-2) i w.heap.size w (fun j => i - j) (.string D) (.int .i64 ((j : Int) + 1)) w2) := ⟨j + 1, D, by omega, by go_num, rfl, HD.out, HB.out⟩
            clear F1
            go_wp2_with fail
            go_roundw
            case rel => exact HR.out
            case measure => simp [intOf]; omega
          · have q1 : decide ((j : Int) < (i : Int)) = false := decide_eq_false (by omega)
            have e1 : i - j = 0 := by omega
            rw [e1, Int.pow_zero] at hs
            obtain rfl := hs.same (is_lit (by decide) (by decide) : Is ⟨#[49]⟩ 1)
            have HB := Lib.hid hb
            clear hs hb e1
            go_wp2_with fail
            go_ret
            exact ⟨rfl, HB.out⟩
end Go.Proofs.YtofhacafekfkgaaDoor
