/- thunklaw7s within. -/
import Derived.Test.YtmcgocbkjdacaaaDoorZB
namespace Go.Proofs.YtmcgocbkjdacaaaDoor
open Go.RowKit Go.BigM
set_option linter.unusedVariables false
set_option linter.unusedSimpArgs false
theorem within18_any (a n : Int) (w : World) (h1 : -9223372036854775808 ≤ a) (h2 : a ≤ 9223372036854775807) (h3 : 1 ≤ n) (h4 : n ≤ 4000000000) :
    Calls Tryd.prog 18 #[.int .i64 a, .int .i64 n] w fun e w' => e = .returned (.int .i64 (a % n)) ∧ w = w' := by
  have hr := Int.emod_nonneg a (show n ≠ 0 by omega)
  have hl := Int.emod_lt_of_pos a (show 0 < n by omega)
  by_cases h : 0 ≤ a
  · have ht := Int.tmod_eq_emod_of_nonneg (b := n) h
    go_enter Tryd.func18, Tryd.ntmps18
    go_wp2
    go_ret
    exact ⟨rfl, rfl⟩
  · by_cases hd : a % n = 0
    · have ht : a.tmod n = 0 := by rw [Int.tmod_eq_emod, if_pos (Or.inr (Int.dvd_of_emod_eq_zero hd))]; omega
      go_enter Tryd.func18, Tryd.ntmps18
      go_wp2
      go_ret
      exact ⟨ret_int (by omega), rfl⟩
    · have ht : a.tmod n = a % n - n := by
        rw [Int.tmod_eq_emod, if_neg]
        · omega
        · rintro (h' | h')
          · exact h h'
          · exact hd (Int.emod_eq_zero_of_dvd h')
      have ht2 : a % n - n < 0 := by omega
      clear hd
      go_enter Tryd.func18, Tryd.ntmps18
      go_wp2
      go_ret
      exact ⟨ret_int (by omega), rfl⟩
theorem within18_some (a : Int) (n : Nat) (ha : I64 a) (h1 : 1 ≤ n) (h2 : n ≤ 1000) (w : World) : Calls Tryd.prog 18 #[.int .i64 a, .int .i64 n] w (SomeR n w) := by
  refine (within18_any a n w ha.1 ha.2 (by omega) (by omega)).mono ?_
  rintro e w' ⟨he, hw⟩
  have h3 := Int.emod_nonneg a (show (n : Int) ≠ 0 by omega)
  have h4 := Int.emod_lt_of_pos a (show (0 : Int) < n by omega)
  exact ⟨(a % n).toNat, by omega, by rw [he]; exact ret_int (by omega), hw⟩
end Go.Proofs.YtmcgocbkjdacaaaDoor
