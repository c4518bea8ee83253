/- The document's product, by the numbers that its texts are; powers of two. -/
import Derived.Test.YtofhacafekfkgaaDoorRM1
import Derived.Test.YtofhacafekfkgaaDoorJ5
import Derived.Test.YtofhacafekfkgaaDoorK1
import Derived.Test.YtofhacafekfkgaaDoorV2
namespace Go.Proofs.YtofhacafekfkgaaDoor
open Go.RowKit Go.BigM
set_option linter.unusedVariables false
theorem refmul_v {s t D : ByteArray} {x y : Int} (hs : Is s x) (ht : Is t y) (hD : Is D (x * y)) (w : World) : Calls Tryd.prog 23 #[.string s, .string t] w (RetS w D true) := by
  refine (refmul_any s t hs.1 ht.1 w).mono ?_
  rintro e w' ⟨he, hb⟩
  have hx := hs.2.1
  have hy := ht.2.1
  unfold ival at hx hy
  have hxy : sgn (low s.data.toList != low t.data.toList) (dval (strip s.data.toList) * dval (strip t.data.toList)) = x * y := by rw [sgn_mul, hx, hy]
  refine ⟨?_, hb⟩
  have hl : dval (strip s.data.toList) * dval (strip t.data.toList) < Lim := by
    have h1 := hD.lim
    rw [← hxy] at h1
    unfold sgn at h1
    split at h1 <;> omega
  rw [he, txt_sgn, hxy, ← hD.2.2, Lib.mk_data, decide_eq_true hl]
theorem pow_abs (z : Int) (hz : z.natAbs = 2) : ∀ i : Nat, (z ^ i).natAbs = 2 ^ i
  | 0 => by simp
  | i + 1 => by rw [Int.pow_succ, Int.natAbs_mul, pow_abs z hz i, hz, Nat.pow_succ]
set_option exponentiation.threshold 400 in
theorem two300 : 2 ^ 300 < Lim := by unfold Lim; decide
theorem pow_is (z : Int) (hz : z.natAbs = 2) (i : Nat) (hi : i ≤ 300) : ∃ s, Is s (z ^ i) :=
  Is.mk _ (by rw [pow_abs z hz]; exact Nat.lt_of_le_of_lt (Nat.pow_le_pow_right (by decide) hi) two300)
theorem pow_div (z : Int) (hz : z.natAbs = 2) (i : Nat) : (z ^ (i + 1)).tdiv z = z ^ i ∧ (z ^ (i + 1)).tmod z = 0 := by
  have h0 : z ≠ 0 := by rintro rfl; simp at hz
  rw [Int.pow_succ]
  exact ⟨Int.mul_tdiv_cancel _ h0, Int.mul_tmod_left _ _⟩
end Go.Proofs.YtofhacafekfkgaaDoor
