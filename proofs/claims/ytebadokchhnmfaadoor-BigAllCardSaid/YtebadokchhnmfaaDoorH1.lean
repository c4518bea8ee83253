/- Contracts of pair and of math/bits.Mul64 at the base. -/
import Derived.Test.YtebadokchhnmfaaDoorW0
namespace Go.Proofs.YtebadokchhnmfaaDoor
open Go.RowKit Go.BigM
set_option linter.unusedVariables false

theorem pair_any (a b : Nat) (ha : a < 1000000000) (hb : b < 1000000000) (w : World) :
    Calls Tryd.prog 66 #[.int .u32 a, .int .u32 b] w fun e w' => e = .returned (.int .u64 ((a * 1000000000 + b : Nat) : Int)) ∧ w = w' := by
  go_enter Tryd.func66, Tryd.ntmps66
  go_wp2
  go_ret
  exact ⟨ret_int (by omega), rfl⟩

set_option maxHeartbeats 1000000 in
theorem mul64_base (x : Nat) (hx : x < 1000000000000000000) (w : World) :
    Calls Tryd.prog 67 #[.int .u64 x, .int .u64 1000000000] w fun e w' => e = .returned (.tuple #[.int .u64 ((x * 1000000000 / 18446744073709551616 : Nat) : Int), .int .u64 ((x * 1000000000 % 18446744073709551616 : Nat) : Int)]) ∧ w = w' := by
  have m1 : bits .and .u64 (x : Int) 4294967295 = (x : Int) % 4294967296 := and_low32 x (by omega) (by omega)
  have m2 : bits .and .u64 1000000000 4294967295 = 1000000000 := by rw [and_low32 _ (by omega) (by omega)]; rfl
  have m3 : bits .and .u64 ((x : Int) / 4294967296 * 1000000000 + (x : Int) % 4294967296 * 1000000000 / 4294967296) 4294967295 = ((x : Int) / 4294967296 * 1000000000 + (x : Int) % 4294967296 * 1000000000 / 4294967296) % 4294967296 := and_low32 _ (by omega) (by omega)
  go_enter Tryd.func67, Tryd.ntmps67
  go_wp2
  go_ret2
  refine ⟨?_, rfl⟩
  have q1 : ∀ a b c d : Int, a = c → b = d → Ending.returned (.tuple #[.int .u64 a, .int .u64 b]) = .returned (.tuple #[.int .u64 c, .int .u64 d]) := by rintro a b c d rfl rfl; rfl
  refine q1 _ _ _ _ ?_ ?_
  · omega
  · first | omega | (simp only [IntKind.wrap_u64]; omega)
end Go.Proofs.YtebadokchhnmfaaDoor
