/- The law's own within. -/
import Derived.Test.YtkjcbaikebdmmaaDoorJ18
namespace Go.Proofs.YtkjcbaikebdmmaaDoor
open Go.RowKit
set_option linter.unusedVariables false

/-- Some number from 0 to n - 1 comes back. -/
def SomeR (n : Nat) (w : World) (e : Ending) (w' : World) : Prop := ∃ r : Nat, r < n ∧ e = .returned (.int .i64 r) ∧ w = w'
def I64 (a : Int) : Prop := -9223372036854775808 ≤ a ∧ a ≤ 9223372036854775807
theorem wf_I64 (a : Int) (h : (Lit.int .i64 a).wf = true) : I64 a := by
  simpa [Lit.wf, IntKind.min, IntKind.max, IntKind.signed, IntKind.bits, I64] using h
theorem within2_some (a : Int) (n : Nat) (ha : I64 a) (h1 : 1 ≤ n) (h2 : n ≤ 1000) (w : World) : Calls Tryd.prog 53 #[.int .i64 a, .int .i64 n] w (SomeR n w) := by
  refine (within2_any a n w ha.1 ha.2 (by omega) (by omega)).mono ?_
  rintro e w' ⟨he, hw⟩
  have h3 := Int.emod_nonneg a (show (n : Int) ≠ 0 by omega)
  have h4 := Int.emod_lt_of_pos a (show (0 : Int) < n by omega)
  exact ⟨(a % n).toNat, by omega, by rw [he]; exact ret_int (by omega), hw⟩
/-- What is known of a slice of integers that came in: it is nil, or leads to a row of so many cells. -/
def IsRow (k : IntKind) (w : World) (a : Option Addr) (len cap : Nat) (zs : List Int) : Prop :=
  (a = none ∧ len = 0 ∧ cap = 0 ∧ zs = []) ∨
  ∃ x, a = some x ∧ len ≤ cap ∧ cap ≤ maxLen ∧ zs.length = cap ∧ (∀ i, i < zs.length → w.cell? (x.add i) = some (.int k (zs.getD i 0))) ∧ ∀ n ∈ zs, (Lit.int k n).wf = true
end Go.Proofs.YtkjcbaikebdmmaaDoor
