/- The walk of BigEnds: whatever the number, true. -/
import Derived.Test.YthieggabkaolmaaDoorV3a
namespace Go.Proofs.YthieggabkaolmaaDoor
open Go.RowKit Go.BigM
set_option linter.unusedVariables false

def RepInv (c : UInt8) (l0 : List UInt8) (n : Nat) (sv iv : Value) : Prop :=
  ∃ (i : Nat) (S : ByteArray), i ≤ n ∧ iv = .int .i64 i ∧ sv = .string S ∧ S.data.toList = l0 ++ List.replicate i c
theorem rep_next (c : UInt8) (l0 : List UInt8) (i : Nat) (S : ByteArray) (h : S.data.toList = l0 ++ List.replicate i c) : (S ++ ⟨#[c]⟩ : ByteArray).data.toList = l0 ++ List.replicate (i + 1) c := by
  rw [List.replicate_succ', ← List.append_assoc, ← h]; simp [ByteArray.data_append]

set_option maxHeartbeats 8000000 in
set_option maxRecDepth 100000 in
theorem ends_walk (a0 : Int) (a1 : Bool) (w0 : (Lit.int .i64 a0).wf = true) (w : World) :
    Calls Tryd.prog 8 #[.int .i64 a0, .bool a1] w fun e w' => e = .returned (.bool true) ∧ Below w.heap.size w w' := by
  have hI := Lib.hid (wf_I64 a0 w0)
  have BB := Lib.hid (Below.refl w.heap.size w)
  clear w0
  go_enter Tryd.func8, Tryd.ntmps8
  go_wp2_with (go_at_call 13; refine (known_any _).mono ?_; rintro e w1 ⟨rfl, hb⟩; replace BB := Lib.hid (BB.out.trans (hb.mono BB.out.size)); clear hb)
  refine (within_some a0 100 hI.out (by decide) (by decide) _).mono ?_
  rintro e w' ⟨k, hk, rfl, rfl⟩
  go_wp2_with fail
  go_loop [6, 8] (fun sv iv => RepInv 57 [] 200 sv iv) (fun _ iv => 200 - (intOf iv).toNat)
  case atStart => exact ⟨0, ⟨#[]⟩, by omega, rfl, rfl, rfl⟩
  case round =>
    obtain ⟨i, S, hi, rfl, rfl, hS⟩ := hrel
    by_cases hlt : i < 200
    · have HN := Lib.hid (rep_next _ _ _ _ hS)
      have hsz : S.size ≤ 200 := by rw [Lib.size_eq, hS]; simp; omega
      clear hS
      go_wp2_with fail
      go_round
      case rel => exact ⟨i + 1, _, by omega, by go_num, rfl, HN.out⟩
      case measure => simp [intOf]; omega
    · obtain rfl : i = 200 := by omega
      have hA := Lib.hid (nines_is S (by rw [hS]; rfl))
      clear hS hlt
      go_wp2_with fail
      go_loop [7, 9] (fun sv iv => RepInv 48 [49] (100 + k) sv iv) (fun _ iv => 100 + k - (intOf iv).toNat)
      case atStart => exact ⟨0, ⟨#[49]⟩, by omega, rfl, rfl, rfl⟩
      case round =>
        obtain ⟨j, T, hj, rfl, rfl, hT⟩ := hrel
        by_cases hlt : j < 100 + k
        · have HN := Lib.hid (rep_next _ _ _ _ hT)
          have hsz : T.size ≤ 300 := by rw [Lib.size_eq, hT]; simp; omega
          clear hT
          go_wp2_with fail
          go_round
          case rel => exact ⟨j + 1, _, by omega, by go_num, rfl, HN.out⟩
          case measure => simp [intOf]; omega
        · obtain rfl : j = 100 + k := by omega
          have iT := tens_is T (100 + k) (by omega) hT
          have hbig := Lim_big
          have iA := hA.out
          have hTT : ¬ (((10 ^ (100 + k) : Nat) : Int) * ((10 ^ (100 + k) : Nat) : Int)).natAbs < Lim := by
            rw [Int.natAbs_mul, Int.natAbs_natCast, ← Nat.pow_add]
            exact Nat.not_lt.2 (Nat.pow_le_pow_right (by decide) (by omega))
          have F3 := Lib.hid (mul_no iT iT hTT)
          have zA := iA.size
          have i1 : Is ⟨#[49]⟩ 1 := tens_is ⟨#[49]⟩ 0 (by decide) rfl
          have e5 : decide ((200 : Int) + 2 * (k : Int) + 1 ≤ 200) = false := decide_eq_false (by omega)
          clear hT hlt hTT
          cases a1
          · obtain ⟨D, iD⟩ := Is.mk ((Lim : Int) - 1 - 1) (by omega)
            have F1 := Lib.hid (add_no iA i1 (by omega))
            have F2 := Lib.hid (sub_v iA i1 iD)
            have F4 := Lib.hid (mul_v (D := S) iA i1 (by rw [Int.mul_one]; exact iA))
            have F5 := Lib.hid (fun w => right_yes S iA.1 w (by omega))
            have s1 : D.size = 200 := size_pos iD (by omega)
            have s2 : S.size = 200 := size_pos iA (by omega)
            clear iT hbig iA i1 iD zA
            go_wp2_with ((first | (go_at_call 18; (with_reducible refine (F1.out _).mono ?_); rintro e w2 ⟨rfl, hb⟩; replace BB := Lib.hid (BB.out.trans (hb.mono BB.out.size)); clear hb) | (go_at_call 20; (with_reducible refine (F2.out _).mono ?_); rintro e w2 ⟨rfl, hb⟩; replace BB := Lib.hid (BB.out.trans (hb.mono BB.out.size)); clear hb) | (go_at_call 22; (first | (with_reducible refine (F3.out _).mono ?_) | (with_reducible refine (F4.out _).mono ?_)); rintro e w2 ⟨rfl, hb⟩; replace BB := Lib.hid (BB.out.trans (hb.mono BB.out.size)); clear hb) | (go_at_call 16; (with_reducible refine (F5.out _).mono ?_); rintro e w' ⟨rfl, rfl⟩)))
            go_ret
            exact ⟨rfl, BB.out⟩
          · have iN := iA.neg (by omega)
            have eN : ∃ t, (⟨#[45]⟩ ++ S : ByteArray) = t := ⟨_, rfl⟩
            obtain ⟨SN, eN⟩ := eN
            rw [eN] at iN
            have j1 := Is.of (⟨#[45, 49]⟩ : ByteArray) (by decide)
            have hv1 : ival (⟨#[45, 49]⟩ : ByteArray).data.toList = -1 := by decide
            rw [hv1] at j1
            clear hv1
            obtain ⟨D, iD⟩ := Is.mk (-((Lim : Int) - 1) - (-1)) (by omega)
            have F1 := Lib.hid (add_no iN j1 (by omega))
            have F2 := Lib.hid (sub_v iN j1 iD)
            have F4 := Lib.hid (mul_v (D := SN) iN i1 (by rw [Int.mul_one]; exact iN))
            have F5 := Lib.hid (fun w => right_yes SN iN.1 w (by have := iN.size; omega))
            have s1 : D.size = 201 := size_neg iD (by omega)
            have s2 : SN.size = 201 := size_neg iN (by omega)
            clear iT hbig iA i1 iD iN j1
            go_wp2_with ((first | (go_at_call 18; (with_reducible refine (F1.out _).mono ?_); rintro e w2 ⟨rfl, hb⟩; replace BB := Lib.hid (BB.out.trans (hb.mono BB.out.size)); clear hb) | (go_at_call 20; (with_reducible refine (F2.out _).mono ?_); rintro e w2 ⟨rfl, hb⟩; replace BB := Lib.hid (BB.out.trans (hb.mono BB.out.size)); clear hb) | (go_at_call 22; (first | (with_reducible refine (F3.out _).mono ?_) | (with_reducible refine (F4.out _).mono ?_)); rintro e w2 ⟨rfl, hb⟩; replace BB := Lib.hid (BB.out.trans (hb.mono BB.out.size)); clear hb) | (go_at_call 16; (with_reducible refine (F5.out _).mono ?_); rintro e w' ⟨rfl, rfl⟩)))
            go_ret
            exact ⟨rfl, BB.out⟩
end Go.Proofs.YthieggabkaolmaaDoor
