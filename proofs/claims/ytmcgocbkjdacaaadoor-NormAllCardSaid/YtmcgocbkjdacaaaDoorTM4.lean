/- Term's contract. -/
import Derived.Test.YtmcgocbkjdacaaaDoorTM2
import Derived.Test.YtmcgocbkjdacaaaDoorTM3
import Derived.Test.YtmcgocbkjdacaaaDoorMN3
namespace Go.Proofs.YtmcgocbkjdacaaaDoor
open Go.RowKit Go.BigM
theorem term_any (l : List Rw) (ao : Option Addr) (cap : Nat) (w : World) (hR : RsAt w ao l) (hc : Rw.cnts l ≤ 40) : Calls Tryd.prog 12 #[.slice ao l.length cap] w (RetTerm w) := by
  have hmake : ∀ r : Rw, MkC r := fun r => make_any r.cnt r (Nat.le_refl _)
  cases l with
  | nil => exact term_none ao cap w
  | cons r l =>
    cases l with
    | nil =>
      cases r with
      | mk k n pl => exact term_one hmake k n pl ao cap w hR hc
    | cons r2 l =>
      by_cases h : (r :: r2 :: l).length ≤ 5
      · exact term_few hmake _ (by simp) h ao cap w hR hc
      · exact term_lots hmake _ (by simp) (by omega) ao cap w hR hc
end Go.Proofs.YtmcgocbkjdacaaaDoor
