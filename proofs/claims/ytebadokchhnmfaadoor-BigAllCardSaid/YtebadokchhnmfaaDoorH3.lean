/- Of two words the quotient, whatever the high one is. -/
import Derived.Test.YtebadokchhnmfaaDoorH2
namespace Go.Proofs.YtebadokchhnmfaaDoor
open Go.BigM
theorem div64_any (hi lo y : Nat) (hlt : hi < y) (h1 : lo < 18446744073709551616) (h2 : y < 18446744073709551616) (w : World) :
    Calls Tryd.prog 68 #[.int .u64 hi, .int .u64 lo, .int .u64 y] w fun e w' => ∃ r : Int, e = .returned (.tuple #[.int .u64 (((hi * 18446744073709551616 + lo) / y : Nat) : Int), .int .u64 r]) ∧ ∃ m, w' = w.drewN m := by
  by_cases h0 : hi = 0
  · subst h0
    have h := div64_zero lo y hlt h1 h2 w
    rewrite [show 0 * 18446744073709551616 + lo = lo by rewrite [Nat.zero_mul]; exact Nat.zero_add lo]
    exact h
  · obtain ⟨s, a1, a2, a3, a4⟩ := zeros_spec y (by omega) h2
    exact div64_high hi lo y s a1 a2 h0 hlt h1 h2 a3 a4 w
end Go.Proofs.YtebadokchhnmfaaDoor
