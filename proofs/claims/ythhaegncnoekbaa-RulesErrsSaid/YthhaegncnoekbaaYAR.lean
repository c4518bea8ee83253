/- The law's own within. -/
import Derived.Test.YthhaegncnoekbaaYAA
import Derived.Test.YthhaegncnoekbaaYAQ
namespace Go.Proofs.Ythhaegncnoekbaa
open Go.RowKit
set_option linter.unusedVariables false

def I64 (a : Int) : Prop := -9223372036854775808 ≤ a ∧ a ≤ 9223372036854775807
theorem wf_I64 (a : Int) (h : (Lit.int .i64 a).wf = true) : I64 a := by
  simpa [Lit.wf, IntKind.min, IntKind.max, IntKind.signed, IntKind.bits, I64] using h
end Go.Proofs.Ythhaegncnoekbaa
namespace Go.Proofs.Ythhaegncnoekbaa
open Go Go.RowKit
theorem errs_walk (a : Int) (w : World) (h : I64 a) : Calls Try.prog 9 #[.int .i64 a] w (RetBool true w) := errs_any a h.1 h.2 w
end Go.Proofs.Ythhaegncnoekbaa
