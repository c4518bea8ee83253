/- The contracts of both Arity. -/
import Derived.Test.YtcalbcllmmoldaaT0
namespace Go.Proofs.Ytcalbcllmmoldaa
open Go.RowKit
set_option linter.unusedVariables false
set_option linter.unusedSimpArgs false
theorem ret_int {k : IntKind} {a b : Int} (h : a = b) : Ending.returned (.int k a) = .returned (.int k b) := by rw [h]
def RetSame (r : Int) (w : World) (e : Ending) (w' : World) : Prop := e = .returned (.int .i64 r) ∧ w = w'
set_option maxHeartbeats 4000000 in
set_option maxRecDepth 100000 in
theorem arity_any (t : ByteArray) (w : World) : Calls Try.prog 17 #[.string t] w (RetSame (arity t : Nat) w) := by
  obtain ⟨b0, h0⟩ : ∃ b, (t.toList == [43]) = b := ⟨_, rfl⟩
  cases b0
  case true =>
    have HA : Hid (((arity t : Nat) : Int) = 2) := by show _ = _; simp [arity, arityIn, prims, h0]
    go_enter Try.func17, Try.ntmps17
    go_wp2_with fail
    go_ret
    exact ⟨by rw [HA.out]; rfl, rfl⟩
  obtain ⟨b1, h1⟩ : ∃ b, (t.toList == [45]) = b := ⟨_, rfl⟩
  cases b1
  case true =>
    have HA : Hid (((arity t : Nat) : Int) = 2) := by show _ = _; simp [arity, arityIn, prims, h0, h1]
    go_enter Try.func17, Try.ntmps17
    go_wp2_with fail
    go_ret
    exact ⟨by rw [HA.out]; rfl, rfl⟩
  obtain ⟨b2, h2⟩ : ∃ b, (t.toList == [42]) = b := ⟨_, rfl⟩
  cases b2
  case true =>
    have HA : Hid (((arity t : Nat) : Int) = 2) := by show _ = _; simp [arity, arityIn, prims, h0, h1, h2]
    go_enter Try.func17, Try.ntmps17
    go_wp2_with fail
    go_ret
    exact ⟨by rw [HA.out]; rfl, rfl⟩
  obtain ⟨b3, h3⟩ : ∃ b, (t.toList == [113, 117, 111, 116, 105, 101, 110, 116]) = b := ⟨_, rfl⟩
  cases b3
  case true =>
    have HA : Hid (((arity t : Nat) : Int) = 2) := by show _ = _; simp [arity, arityIn, prims, h0, h1, h2, h3]
    go_enter Try.func17, Try.ntmps17
    go_wp2_with fail
    go_ret
    exact ⟨by rw [HA.out]; rfl, rfl⟩
  obtain ⟨b4, h4⟩ : ∃ b, (t.toList == [114, 101, 109, 97, 105, 110, 100, 101, 114]) = b := ⟨_, rfl⟩
  cases b4
  case true =>
    have HA : Hid (((arity t : Nat) : Int) = 2) := by show _ = _; simp [arity, arityIn, prims, h0, h1, h2, h3, h4]
    go_enter Try.func17, Try.ntmps17
    go_wp2_with fail
    go_ret
    exact ⟨by rw [HA.out]; rfl, rfl⟩
  obtain ⟨b5, h5⟩ : ∃ b, (t.toList == [60]) = b := ⟨_, rfl⟩
  cases b5
  case true =>
    have HA : Hid (((arity t : Nat) : Int) = 2) := by show _ = _; simp [arity, arityIn, prims, h0, h1, h2, h3, h4, h5]
    go_enter Try.func17, Try.ntmps17
    go_wp2_with fail
    go_ret
    exact ⟨by rw [HA.out]; rfl, rfl⟩
  obtain ⟨b6, h6⟩ : ∃ b, (t.toList == [61]) = b := ⟨_, rfl⟩
  cases b6
  case true =>
    have HA : Hid (((arity t : Nat) : Int) = 2) := by show _ = _; simp [arity, arityIn, prims, h0, h1, h2, h3, h4, h5, h6]
    go_enter Try.func17, Try.ntmps17
    go_wp2_with fail
    go_ret
    exact ⟨by rw [HA.out]; rfl, rfl⟩
  obtain ⟨b7, h7⟩ : ∃ b, (t.toList == [101, 113, 63]) = b := ⟨_, rfl⟩
  cases b7
  case true =>
    have HA : Hid (((arity t : Nat) : Int) = 2) := by show _ = _; simp [arity, arityIn, prims, h0, h1, h2, h3, h4, h5, h6, h7]
    go_enter Try.func17, Try.ntmps17
    go_wp2_with fail
    go_ret
    exact ⟨by rw [HA.out]; rfl, rfl⟩
  obtain ⟨b8, h8⟩ : ∃ b, (t.toList == [99, 111, 110, 115]) = b := ⟨_, rfl⟩
  cases b8
  case true =>
    have HA : Hid (((arity t : Nat) : Int) = 2) := by show _ = _; simp [arity, arityIn, prims, h0, h1, h2, h3, h4, h5, h6, h7, h8]
    go_enter Try.func17, Try.ntmps17
    go_wp2_with fail
    go_ret
    exact ⟨by rw [HA.out]; rfl, rfl⟩
  obtain ⟨b9, h9⟩ : ∃ b, (t.toList == [115, 101, 113]) = b := ⟨_, rfl⟩
  cases b9
  case true =>
    have HA : Hid (((arity t : Nat) : Int) = 2) := by show _ = _; simp [arity, arityIn, prims, h0, h1, h2, h3, h4, h5, h6, h7, h8, h9]
    go_enter Try.func17, Try.ntmps17
    go_wp2_with fail
    go_ret
    exact ⟨by rw [HA.out]; rfl, rfl⟩
  obtain ⟨b10, h10⟩ : ∃ b, (t.toList == [99, 97, 114]) = b := ⟨_, rfl⟩
  cases b10
  case true =>
    have HA : Hid (((arity t : Nat) : Int) = 1) := by show _ = _; simp [arity, arityIn, prims, h0, h1, h2, h3, h4, h5, h6, h7, h8, h9, h10]
    go_enter Try.func17, Try.ntmps17
    go_wp2_with fail
    go_ret
    exact ⟨by rw [HA.out]; rfl, rfl⟩
  obtain ⟨b11, h11⟩ : ∃ b, (t.toList == [99, 100, 114]) = b := ⟨_, rfl⟩
  cases b11
  case true =>
    have HA : Hid (((arity t : Nat) : Int) = 1) := by show _ = _; simp [arity, arityIn, prims, h0, h1, h2, h3, h4, h5, h6, h7, h8, h9, h10, h11]
    go_enter Try.func17, Try.ntmps17
    go_wp2_with fail
    go_ret
    exact ⟨by rw [HA.out]; rfl, rfl⟩
  obtain ⟨b12, h12⟩ : ∃ b, (t.toList == [110, 117, 108, 108, 63]) = b := ⟨_, rfl⟩
  cases b12
  case true =>
    have HA : Hid (((arity t : Nat) : Int) = 1) := by show _ = _; simp [arity, arityIn, prims, h0, h1, h2, h3, h4, h5, h6, h7, h8, h9, h10, h11, h12]
    go_enter Try.func17, Try.ntmps17
    go_wp2_with fail
    go_ret
    exact ⟨by rw [HA.out]; rfl, rfl⟩
  obtain ⟨b13, h13⟩ : ∃ b, (t.toList == [112, 97, 105, 114, 63]) = b := ⟨_, rfl⟩
  cases b13
  case true =>
    have HA : Hid (((arity t : Nat) : Int) = 1) := by show _ = _; simp [arity, arityIn, prims, h0, h1, h2, h3, h4, h5, h6, h7, h8, h9, h10, h11, h12, h13]
    go_enter Try.func17, Try.ntmps17
    go_wp2_with fail
    go_ret
    exact ⟨by rw [HA.out]; rfl, rfl⟩
  obtain ⟨b14, h14⟩ : ∃ b, (t.toList == [110, 111, 116]) = b := ⟨_, rfl⟩
  cases b14
  case true =>
    have HA : Hid (((arity t : Nat) : Int) = 1) := by show _ = _; simp [arity, arityIn, prims, h0, h1, h2, h3, h4, h5, h6, h7, h8, h9, h10, h11, h12, h13, h14]
    go_enter Try.func17, Try.ntmps17
    go_wp2_with fail
    go_ret
    exact ⟨by rw [HA.out]; rfl, rfl⟩
  obtain ⟨b15, h15⟩ : ∃ b, (t.toList == [105, 110, 116, 101, 103, 101, 114, 63]) = b := ⟨_, rfl⟩
  cases b15
  case true =>
    have HA : Hid (((arity t : Nat) : Int) = 1) := by show _ = _; simp [arity, arityIn, prims, h0, h1, h2, h3, h4, h5, h6, h7, h8, h9, h10, h11, h12, h13, h14, h15]
    go_enter Try.func17, Try.ntmps17
    go_wp2_with fail
    go_ret
    exact ⟨by rw [HA.out]; rfl, rfl⟩
  obtain ⟨b16, h16⟩ : ∃ b, (t.toList == [115, 121, 109, 98, 111, 108, 63]) = b := ⟨_, rfl⟩
  cases b16
  case true =>
    have HA : Hid (((arity t : Nat) : Int) = 1) := by show _ = _; simp [arity, arityIn, prims, h0, h1, h2, h3, h4, h5, h6, h7, h8, h9, h10, h11, h12, h13, h14, h15, h16]
    go_enter Try.func17, Try.ntmps17
    go_wp2_with fail
    go_ret
    exact ⟨by rw [HA.out]; rfl, rfl⟩
  obtain ⟨b17, h17⟩ : ∃ b, (t.toList == [101, 114, 114, 111, 114]) = b := ⟨_, rfl⟩
  cases b17
  case true =>
    have HA : Hid (((arity t : Nat) : Int) = 1) := by show _ = _; simp [arity, arityIn, prims, h0, h1, h2, h3, h4, h5, h6, h7, h8, h9, h10, h11, h12, h13, h14, h15, h16, h17]
    go_enter Try.func17, Try.ntmps17
    go_wp2_with fail
    go_ret
    exact ⟨by rw [HA.out]; rfl, rfl⟩
  have HA : Hid (((arity t : Nat) : Int) = 0) := by show _ = _; simp [arity, arityIn, prims, h0, h1, h2, h3, h4, h5, h6, h7, h8, h9, h10, h11, h12, h13, h14, h15, h16, h17]
  go_enter Try.func17, Try.ntmps17
  go_wp2_with fail
  go_ret
  exact ⟨by rw [HA.out]; rfl, rfl⟩
end Go.Proofs.Ytcalbcllmmoldaa
