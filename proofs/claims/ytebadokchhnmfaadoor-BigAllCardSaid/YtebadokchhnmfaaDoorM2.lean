/- Plain mathematics: one digit of a division, guessed from the top (Knuth). Nothing of the program is named here. -/
namespace Go.BigM
set_option linter.unusedVariables false

/-- A guess that passes the test is not too much. -/
theorem guess_ok (K y1 y0 u d q r : Nat) (h : q * y1 + r = u) (ht : q * y0 ≤ K * r + d) : q * (y1 * K + y0) ≤ u * K + d := by
  subst h
  have e : q * (y1 * K + y0) = q * y1 * K + q * y0 := by rw [Nat.mul_add, Nat.mul_assoc]
  have e2 : (q * y1 + r) * K = q * y1 * K + K * r := by rw [Nat.add_mul, Nat.mul_comm r K]
  omega
/-- A guess that fails it is too much. -/
theorem guess_no (K y1 y0 u d q r : Nat) (h : q * y1 + r = u) (ht : K * r + d < q * y0) : u * K + d < q * (y1 * K + y0) := by
  subst h
  have e : q * (y1 * K + y0) = q * y1 * K + q * y0 := by rw [Nat.mul_add, Nat.mul_assoc]
  have e2 : (q * y1 + r) * K = q * y1 * K + K * r := by rw [Nat.add_mul, Nat.mul_comm r K]
  omega
/-- The quotient is below K where the upper part is below the divisor. -/
theorem quot_lt (K y u d : Nat) (hu : u < y) (hd : d < K) : (u * K + d) / y < K := by
  have hy : 0 < y := by omega
  rw [Nat.div_lt_iff_lt_mul hy]
  have h1 : (u + 1) * K ≤ y * K := Nat.mul_le_mul_right _ hu
  rw [Nat.add_mul, Nat.one_mul] at h1
  rw [Nat.mul_comm K y]
  omega
/-- No guess is less than the quotient. -/
theorem guess_ge (K y1 y0 u d q r : Nat) (hy : 0 < y1) (h : q * y1 + r = u) (hr : r < y1) (hd : d < K) : (u * K + d) / (y1 * K + y0) ≤ q := by
  have hK : 0 < K := by omega
  have h0 : 0 < y1 * K + y0 := Nat.lt_of_lt_of_le (Nat.mul_pos hy hK) (Nat.le_add_right _ _)
  have h1 : u * K + d < (q + 1) * (y1 * K + y0) := by
    have e1 : (q + 1) * y1 = q * y1 + y1 := by rw [Nat.add_mul, Nat.one_mul]
    have h2 : (u + 1) * K ≤ (q + 1) * y1 * K := Nat.mul_le_mul_right _ (by omega)
    rw [Nat.add_mul, Nat.one_mul] at h2
    have h3 : (q + 1) * (y1 * K + y0) = (q + 1) * y1 * K + (q + 1) * y0 := by rw [Nat.mul_add, Nat.mul_assoc]
    have h4 : 0 ≤ (q + 1) * y0 := Nat.zero_le _
    omega
  have := (Nat.div_lt_iff_lt_mul h0).2 h1
  omega
/-- The first guess is K + 1 at most. -/
theorem guess_le (K y1 y0 u : Nat) (hy : K ≤ 2 * y1) (hK : 0 < K) (h0 : y0 < K) (hu : u < y1 * K + y0) : u / y1 ≤ K + 1 := by
  have hy1 : 0 < y1 := by omega
  have h : u < (K + 2) * y1 := by
    rw [Nat.add_mul, Nat.mul_comm K y1]; omega
  have := (Nat.div_lt_iff_lt_mul hy1).2 h
  omega
/-- Where the rest has passed K no test is needed. -/
theorem guess_break (K y0 q r d : Nat) (hq : q ≤ K) (h0 : y0 < K) (hr : K ≤ r) : q * y0 ≤ K * r + d := by
  have h1 : q * y0 ≤ K * K := Nat.mul_le_mul hq (Nat.le_of_lt h0)
  have h2 : K * K ≤ K * r := Nat.mul_le_mul_left _ hr
  omega
theorem guess_is (N y q : Nat) (hy : 0 < y) (h1 : N / y ≤ q) (h2 : q * y ≤ N) : q = N / y := by
  have := (Nat.le_div_iff_mul_le hy).2 h2
  omega
/-- A guess that is too much, less one, is still enough. -/
theorem guess_dec (N y q : Nat) (hy : 0 < y) (h2 : N < q * y) : N / y ≤ q - 1 := by
  have := (Nat.div_lt_iff_lt_mul hy).2 h2
  omega
/-- Two digits of a quotient. -/
theorem two_digits (K y u d1 d0 : Nat) (hy : 0 < y) : (u * K + d1) / y * K + (((u * K + d1) % y) * K + d0) / y = ((u * K + d1) * K + d0) / y := by
  have h := Nat.div_add_mod (u * K + d1) y
  have e : (u * K + d1) * K + d0 = y * ((u * K + d1) / y * K) + ((u * K + d1) % y * K + d0) := by
    conv => lhs; rw [← h]
    rw [Nat.add_mul, Nat.mul_assoc, Nat.add_assoc]
  rw [e, Nat.mul_add_div hy]
/-- The same number, both moved. -/
theorem moved (N y s : Nat) (hs : 0 < s) : N * s / (y * s) = N / y := Nat.mul_div_mul_right N y hs
end Go.BigM
