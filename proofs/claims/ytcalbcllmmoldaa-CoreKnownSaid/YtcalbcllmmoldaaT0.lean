/- Terms: which are right, what is free in them, what they bind; the mathematics. -/
import Derived.Test.YtcalbcllmmoldaaE0
namespace Go.Proofs.Ytcalbcllmmoldaa
open Go.RowKit
set_option linter.unusedVariables false
set_option linter.unusedSimpArgs false

/-- The primitives' texts: ten of two, then eight of one. -/
def prims : List (List UInt8) := [[43], [45], [42], [113, 117, 111, 116, 105, 101, 110, 116], [114, 101, 109, 97, 105, 110, 100, 101, 114], [60], [61], [101, 113, 63], [99, 111, 110, 115], [115, 101, 113], [99, 97, 114], [99, 100, 114], [110, 117, 108, 108, 63], [112, 97, 105, 114, 63], [110, 111, 116], [105, 110, 116, 101, 103, 101, 114, 63], [115, 121, 109, 98, 111, 108, 63], [101, 114, 114, 111, 114]]
/-- How many terms a primitive takes, by its place in a list. -/
def arityIn : List (List UInt8) → Nat → ByteArray → Nat
  | [], _, _ => 0
  | p :: l, i, t => if t.toList == p then (if i < 10 then 2 else 1) else arityIn l (i + 1) t
def arity (t : ByteArray) : Nat := arityIn prims 0 t
instance memDec (s : ByteArray) (ns : List ByteArray) : Decidable (s ∈ ns) := decidable_of_iff (ns.any (fun x => decide (x = s)) = true) (by simp)
/-- Names: none empty, none twice. -/
def Once (ns : List ByteArray) : Prop := (∀ s ∈ ns, s ≠ ⟨#[]⟩) ∧ ns.Nodup
instance (ns : List ByteArray) : Decidable (Once ns) := inferInstanceAs (Decidable (_ ∧ _))
def textB (num : ByteArray → Bool) (k : Int) (t : ByteArray) : Bool :=
  if k = 1 then num t else if k = 2 then (t.toList == [35, 116] || t.toList == [35, 102]) else if k = 4 ∨ k = 5 then !t.toList.isEmpty else if k = 10 then decide (0 < arity t)
  else if k = 3 ∨ k = 6 ∨ k = 7 ∨ k = 8 ∨ k = 9 then t.toList.isEmpty else false
def namesB (k : Int) (ns : List ByteArray) : Bool := if k = 6 ∨ k = 9 then decide (0 < ns.length) && decide (Once ns) else decide (ns.length = 0)
def partsB (k : Int) (t : ByteArray) (m n : Nat) : Bool :=
  if k = 6 then decide (n = 1) else if k = 7 then decide (2 ≤ n) else if k = 8 then decide (n = 3) else if k = 9 then decide (n = m + 1) else if k = 10 then decide (n = arity t) else decide (n = 0)
/-- A term's own right form. -/
def shapeB (num : ByteArray → Bool) (k : Int) (t : ByteArray) (ns : List ByteArray) (n : Nat) : Bool := textB num k t && namesB k ns && partsB k t ns.length n
mutual
def Et.right (num : ByteArray → Bool) : Et → Bool
  | .mk k t ns a => shapeB num k t ns a.length && Et.rights num a
def Et.rights (num : ByteArray → Bool) : List Et → Bool
  | [] => true
  | e :: l => e.right num && Et.rights num l
end
theorem rights_all {num : ByteArray → Bool} : ∀ (l : List Et), Et.rights num l = true ↔ ∀ e ∈ l, Et.right num e = true
  | [] => by simp [Et.rights]
  | e :: l => by simp [Et.rights, rights_all l]
theorem rights_append {num : ByteArray → Bool} : ∀ (l m : List Et), Et.rights num (l ++ m) = (Et.rights num l && Et.rights num m)
  | [], m => by simp [Et.rights]
  | e :: l, m => by simp [Et.rights, rights_append l m, Bool.and_assoc]
theorem rights_take {num : ByteArray → Bool} (l : List Et) (j : Nat) (h : j < l.length) : Et.rights num (l.take (j + 1)) = (Et.rights num (l.take j) && Et.right num l[j]) := by
  rw [take_snoc_et l j h, rights_append]; simp [Et.rights]
theorem rights_false {num : ByteArray → Bool} (l : List Et) (j : Nat) (h : j < l.length) (hf : Et.right num l[j] = false) : Et.rights num l = false := by
  cases hr : Et.rights num l with
  | false => rfl
  | true => rw [(rights_all l).1 hr _ (List.getElem_mem h)] at hf; cases hf
mutual
/-- A name is free in a term. -/
def Et.fr (s : ByteArray) : Et → Prop
  | .mk k t ns a => (k = 5 ∧ t = s) ∨ (Et.frs s a ∧ s ∉ ns)
def Et.frs (s : ByteArray) : List Et → Prop
  | [] => False
  | e :: l => e.fr s ∨ Et.frs s l
end
theorem frs_iff {s : ByteArray} : ∀ (l : List Et), Et.frs s l ↔ ∃ e ∈ l, Et.fr s e
  | [] => by simp [Et.frs]
  | e :: l => by simp [Et.frs, frs_iff l]
mutual
/-- The names that a term binds, from its head on. -/
def Et.bnd : Et → List ByteArray
  | .mk _ _ ns a => ns ++ Et.bnds a
def Et.bnds : List Et → List ByteArray
  | [] => []
  | e :: l => e.bnd ++ Et.bnds l
end
theorem bnds_append : ∀ (l m : List Et), Et.bnds (l ++ m) = Et.bnds l ++ Et.bnds m
  | [], m => by simp [Et.bnds]
  | e :: l, m => by simp [Et.bnds, bnds_append l m]
mutual
/-- Texts and names are short, and there are few names at each. -/
def Et.fine : Et → Prop
  | .mk _ t ns a => t.size ≤ 100 ∧ ns.length ≤ 100 ∧ (∀ s ∈ ns, s.size ≤ 100) ∧ Et.fines a
def Et.fines : List Et → Prop
  | [] => True
  | e :: l => e.fine ∧ Et.fines l
end
theorem fines_all : ∀ (l : List Et), Et.fines l ↔ ∀ e ∈ l, Et.fine e
  | [] => by simp [Et.fines]
  | e :: l => by simp [Et.fines, fines_all l]
theorem fine_mk (k : Int) (t : ByteArray) (ns : List ByteArray) (a : List Et) : (Et.mk k t ns a).fine ↔ t.size ≤ 100 ∧ ns.length ≤ 100 ∧ (∀ s ∈ ns, s.size ≤ 100) ∧ ∀ e ∈ a, e.fine := by
  rw [← fines_all]; unfold Et.fine; rfl
theorem right_mk (num : ByteArray → Bool) (k : Int) (t : ByteArray) (ns : List ByteArray) (a : List Et) : (Et.mk k t ns a).right num = (shapeB num k t ns a.length && Et.rights num a) := by
  unfold Et.right; rfl
end Go.Proofs.Ytcalbcllmmoldaa
