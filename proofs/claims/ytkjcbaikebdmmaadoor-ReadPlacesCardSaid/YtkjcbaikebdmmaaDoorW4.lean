/- What raw data make; rows of data that a call owns. -/
import Derived.Test.YtkjcbaikebdmmaaDoorW3
namespace Go.Proofs.YtkjcbaikebdmmaaDoor
open Go.RowKit
set_option linter.unusedVariables false

/-- The texts of numbers, of #t and #f, of symbols. -/
def tblI : List ByteArray := [⟨#[48]⟩, ⟨#[49]⟩, ⟨#[45, 55]⟩, ⟨#[52, 50]⟩, ⟨#[49, 50, 51, 52, 53, 54, 55, 56, 57, 48, 49, 50, 51, 52, 53, 54, 55, 56, 57, 48, 49, 50, 51, 52, 53, 54, 55, 56, 57, 48]⟩]
def tblB : List ByteArray := [⟨#[35, 116]⟩, ⟨#[35, 102]⟩]
def tblS : List ByteArray := [⟨#[97]⟩, ⟨#[98]⟩, ⟨#[120]⟩, ⟨#[102]⟩, ⟨#[43]⟩, ⟨#[99, 97, 114]⟩, ⟨#[46, 46, 46]⟩, ⟨#[95]⟩, ⟨#[108, 101, 116]⟩, ⟨#[113, 117, 111, 116, 101]⟩, ⟨#[97, 45, 62, 98]⟩]
mutual
/-- The datum that a raw one makes. -/
def Rw.make : Rw → Dt
  | .mk k n l =>
    if k % 7 = 0 then .mk 1 (tblI.getD (n % 5).toNat ⟨#[]⟩) [] [] 0
    else if k % 7 = 1 then .mk 2 (tblB.getD (n % 2).toNat ⟨#[]⟩) [] [] 0
    else if k % 7 = 2 ∨ k % 7 = 3 then .mk 3 (tblS.getD (n % 11).toNat ⟨#[]⟩) [] [] 0
    else .mk 4 ⟨#[]⟩ [] (Rw.makes l) 0
def Rw.makes : List Rw → List Dt
  | [] => []
  | r :: l => r.make :: Rw.makes l
end
theorem makes_length : ∀ (l : List Rw), (Rw.makes l).length = l.length
  | [] => by simp [Rw.makes]
  | r :: l => by simp [Rw.makes, makes_length l]
theorem makes_append : ∀ (l m : List Rw), Rw.makes (l ++ m) = Rw.makes l ++ Rw.makes m
  | [], m => by simp [Rw.makes]
  | r :: l, m => by simp [Rw.makes, makes_append l m]
theorem makes_take (l : List Rw) (j : Nat) (h : j < l.length) : Rw.makes (l.take (j + 1)) = Rw.makes (l.take j) ++ [l[j].make] := by
  rw [List.take_succ_eq_append_getElem h, makes_append]
  simp [Rw.makes]

end Go.Proofs.YtkjcbaikebdmmaaDoor
