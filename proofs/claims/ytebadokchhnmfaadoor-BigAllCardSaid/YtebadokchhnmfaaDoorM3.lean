/- Plain mathematics of a division whose numbers are moved up. -/
import Derived.Test.YtebadokchhnmfaaDoorM2
namespace Go.BigM
set_option linter.unusedVariables false

theorem moved_parts (hi lo y s : Nat) (hs : s ≤ 63) (h1 : lo < 18446744073709551616) (hlt : hi < y) :
    lo / 2 ^ (64 - s) < 2 ^ s ∧ hi * 2 ^ s + lo / 2 ^ (64 - s) < y * 2 ^ s ∧
    (hi * 18446744073709551616 + lo) * 2 ^ s = (hi * 2 ^ s + lo / 2 ^ (64 - s)) * 18446744073709551616 + lo * 2 ^ s % 18446744073709551616 := by
  have hP : 0 < 2 ^ s := Nat.pow_pos (by decide)
  have h64 : 2 ^ (64 - s) * 2 ^ s = 18446744073709551616 := by
    rw [← Nat.pow_add, show 64 - s + s = 64 by omega]
  have a1 : lo / 2 ^ (64 - s) < 2 ^ s := Nat.div_lt_of_lt_mul (by rw [h64]; exact h1)
  have a2 : (hi + 1) * 2 ^ s ≤ y * 2 ^ s := Nat.mul_le_mul_right _ hlt
  rw [Nat.add_mul, Nat.one_mul] at a2
  refine ⟨a1, by omega, ?_⟩
  have a3 : lo * 2 ^ s / 18446744073709551616 = lo / 2 ^ (64 - s) := by
    rw [← h64]; exact Nat.mul_div_mul_right lo _ hP
  have a4 := Nat.div_add_mod (lo * 2 ^ s) 18446744073709551616
  rw [a3] at a4
  have a5 : hi * 18446744073709551616 * 2 ^ s = hi * 2 ^ s * 18446744073709551616 := Nat.mul_right_comm _ _ _
  rw [Nat.add_mul, Nat.add_mul, a5]
  omega
/-- One digit, found. -/
theorem digit_found (y1 y0 u d q r : Nat) (hyb : 2147483648 ≤ y1) (hu : u < y1 * 4294967296 + y0) (hd : d < 4294967296)
    (h : q * y1 + r = u) (hge : (u * 4294967296 + d) / (y1 * 4294967296 + y0) ≤ q) (ht : q * y0 ≤ 4294967296 * r + d) : q = (u * 4294967296 + d) / (y1 * 4294967296 + y0) :=
  guess_is _ _ _ (by omega) hge (guess_ok 4294967296 y1 y0 u d q r h ht)
end Go.BigM
