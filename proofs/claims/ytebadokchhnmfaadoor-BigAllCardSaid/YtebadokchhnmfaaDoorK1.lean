/- The contract of known: the chapter's example. -/
import Derived.Test.YtebadokchhnmfaaDoorF1
namespace Go.Proofs.YtebadokchhnmfaaDoor
open Go.RowKit Go.BigM
set_option linter.unusedVariables false

theorem add_known (w : World) : Calls Tryd.prog 18 #[.string ⟨#[57, 57, 57]⟩, .string ⟨#[50]⟩] w fun e w' => e = .returned (.tuple #[.string ⟨#[49, 48, 48, 49]⟩, .bool true]) ∧ Below w.heap.size w w' := by
  refine (add_any ⟨#[57, 57, 57]⟩ ⟨#[50]⟩ (by decide) (by decide) w).mono ?_
  rintro e w' ⟨he, hb⟩
  refine ⟨?_, hb⟩
  rw [he]
  have e1 : ival (⟨#[57, 57, 57]⟩ : ByteArray).data.toList + ival (⟨#[50]⟩ : ByteArray).data.toList = 1001 := by decide
  have e2 : (1001 : Int).natAbs < Lim := by
    unfold Lim
    have : 10 ^ 4 ≤ 10 ^ 200 := Nat.pow_le_pow_right (by decide) (by decide)
    show 1001 < _; omega
  have e3 : txtI 1001 = [49, 48, 48, 49] := by
    unfold txtI txt
    rw [if_neg (by decide), if_pos e2, decide_eq_false (by decide), if_neg Bool.false_ne_true]
    show digs 1001 = _
    rw [digs_pos _ (by decide), digs_pos _ (by decide), digs_pos _ (by decide), digs_pos _ (by decide), show 1001 / 10 / 10 / 10 / 10 = 0 from rfl, digs_zero]
    rfl
  rw [e1, e3, decide_eq_true e2]
theorem cmp_known (w : World) : Calls Tryd.prog 26 #[.string ⟨#[50]⟩, .string ⟨#[45, 51]⟩] w fun e w' => e = .returned (.int .i64 1) ∧ Below w.heap.size w w' := by
  refine (cmp_any ⟨#[50]⟩ ⟨#[45, 51]⟩ (by decide) (by decide) w).mono ?_
  rintro e w' ⟨he, hb⟩
  exact ⟨by rw [he]; rfl, hb⟩
theorem right_known (s : ByteArray) (b : Bool) (h : decide (Canon s.data.toList) = b) (hs : s.size ≤ 5000) (w : World) : Calls Tryd.prog 16 #[.string s] w fun e w' => e = .returned (.bool b) ∧ w = w' := by
  have := right_any s w hs
  rw [h] at this; exact this

set_option maxRecDepth 100000 in
theorem known_any (w : World) : Calls Tryd.prog 13 #[] w fun e w' => e = .returned (.bool true) ∧ Below w.heap.size w w' := by
  go_enter Tryd.func13, Tryd.ntmps13
  go_wp2_with fail
  refine (add_known w).mono ?_
  rintro e w1 ⟨rfl, hb⟩
  have B1 := Lib.hid hb
  clear hb
  go_wp2_with (first | (go_at_call 16; first | (with_reducible refine (right_known ⟨#[45, 48]⟩ false (by decide) (by decide) _).mono ?_; rintro e w' ⟨rfl, rfl⟩) | (with_reducible refine (right_known ⟨#[48]⟩ true (by decide) (by decide) _).mono ?_; rintro e w' ⟨rfl, rfl⟩)))
  refine (cmp_known w1).mono ?_
  rintro e w2 ⟨rfl, hb⟩
  have B2 : Hid (Below w.heap.size w w2) := B1.out.trans (hb.mono B1.out.size)
  clear hb
  go_wp2_with fail
  go_ret
  exact ⟨rfl, B2.out⟩
end Go.Proofs.YtebadokchhnmfaaDoor
