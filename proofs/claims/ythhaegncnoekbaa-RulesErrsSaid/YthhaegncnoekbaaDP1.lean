/- Rules: what is done with a list's parts one by one, by the iterator's count; the program's deepest, as mathematics. -/
import Derived.Test.YthhaegncnoekbaaYAM
import Derived.Test.YthhaegncnoekbaaYAN
namespace Go.Proofs.Ythhaegncnoekbaa
open Go.RowKit
set_option linter.unusedVariables false
set_option linter.unusedSimpArgs false
/-- Where the k-th part that is no dots stands; the end behind the last. -/
def pz (l : List Dt) (k : Nat) : Nat := ((pix l)[k]?).getD l.length
def restP (l : List Dt) (k : Nat) : List Dt := l.drop (pz l k)
theorem fold_skip {α : Type} (F : List Dt → α) (hF : ∀ d r, d.dots = true → F (d :: r) = F r) (L : List Dt) : ∀ (r : List Dt) (i : Nat), L.drop i = r → F r = F (L.drop (((pixF r i)[0]?).getD L.length))
  | [], i, h => by simp [pixF]
  | d :: r, i, h => by
    have hi : i < L.length := by
      by_cases h2 : i < L.length
      · exact h2
      · rw [List.drop_eq_nil_of_le (by omega)] at h; cases h
    have h2 : L.drop (i + 1) = r := by
      rw [List.drop_eq_getElem_cons hi] at h
      injection h
    cases hd : d.dots with
    | true =>
      have e : pixF (d :: r) i = pixF r (i + 1) := by rw [pixF, if_pos hd]
      rw [hF d r hd, e]
      exact fold_skip F hF L r (i + 1) h2
    | false =>
      have e : pixF (d :: r) i = i :: pixF r (i + 1) := by rw [pixF, if_neg (by rw [hd]; decide)]
      rw [e]
      simp only [List.getElem?_cons_zero, Option.getD_some]
      rw [h]
theorem pix_next (L : List Dt) : ∀ (r : List Dt) (i k : Nat) (hk : k < (pixF r i).length), L.drop i = r → (pixF (L.drop ((pixF r i)[k] + 1)) ((pixF r i)[k] + 1))[0]? = (pixF r i)[k + 1]? ∧ ∃ h : (pixF r i)[k] < L.length, (L[(pixF r i)[k]]).dots = false
  | [], i, k, hk, _ => by simp [pixF] at hk
  | d :: r, i, k, hk, h => by
    have hi : i < L.length := by
      by_cases h2 : i < L.length
      · exact h2
      · rw [List.drop_eq_nil_of_le (by omega)] at h; cases h
    have h2 : L[i] = d ∧ L.drop (i + 1) = r := by
      rw [List.drop_eq_getElem_cons hi] at h
      injection h with h3 h4; exact ⟨h3, h4⟩
    cases hd : d.dots with
    | true =>
      have e : pixF (d :: r) i = pixF r (i + 1) := by rw [pixF, if_pos hd]
      have ih := pix_next L r (i + 1) k (by rw [← e]; exact hk) h2.2
      simp only [e]; exact ih
    | false =>
      have e : pixF (d :: r) i = i :: pixF r (i + 1) := by rw [pixF, if_neg (by rw [hd]; decide)]
      cases k with
      | zero =>
        simp only [e, List.getElem_cons_zero, List.getElem?_cons_succ, h2.2]
        first
          | exact ⟨rfl, hi, by rw [h2.1]; exact hd⟩
          | exact ⟨trivial, hi, by rw [h2.1]; exact hd⟩
      | succ k =>
        have ih := pix_next L r (i + 1) k (by rw [e] at hk; simpa using hk) h2.2
        simp only [e, List.getElem_cons_succ, List.getElem?_cons_succ]; exact ih
theorem rest_zero {α : Type} (F : List Dt → α) (hF : ∀ d r, d.dots = true → F (d :: r) = F r) (l : List Dt) : F l = F (restP l 0) := fold_skip F hF l l 0 (by simp)
theorem rest_next {α : Type} (F : List Dt → α) (hF : ∀ d r, d.dots = true → F (d :: r) = F r) (l : List Dt) (k : Nat) (hk : k < (pix l).length) : F (l.drop ((pix l)[k] + 1)) = F (restP l (k + 1)) := by
  rw [fold_skip F hF l (l.drop ((pix l)[k] + 1)) ((pix l)[k] + 1) rfl]
  have h := (pix_next l l 0 k hk (by simp)).1
  unfold restP pz
  rw [show ((pixF (l.drop ((pix l)[k] + 1)) ((pix l)[k] + 1))[0]?) = (pix l)[k + 1]? from h]
theorem pix_dots {l : List Dt} {k : Nat} (hk : k < (pix l).length) : (l[(pix l)[k]]'(pix_lt hk)).dots = false := (pix_next l l 0 k hk (by simp)).2.2
theorem rest_cons {l : List Dt} {k : Nat} (hk : k < (pix l).length) : restP l k = l[(pix l)[k]]'(pix_lt hk) :: l.drop ((pix l)[k] + 1) := by
  unfold restP pz
  rw [List.getElem?_eq_getElem hk, Option.getD_some]
  exact List.drop_eq_getElem_cons (pix_lt hk)
theorem rest_end (l : List Dt) : restP l (pix l).length = [] := by
  unfold restP pz
  rw [List.getElem?_eq_none (Nat.le_refl _), Option.getD_none, List.drop_length]
mutual
/-- The greatest depth of the variables in d, which stands within so many dots; none: it may not stand so. -/
def Dt.dpst (bs : List Bd) : Dt → Int → Option Int
  | .mk k t ms l p, n => match fpos bs (.mk k t ms l p) with
    | some i => if ((bs[i]?).getD bNone).deep = 0 ∨ ((bs[i]?).getD bNone).deep = n then some ((bs[i]?).getD bNone).deep else none
    | none => if (Dt.mk k t ms l p).dots = true ∨ (k = 4 ∧ strays l true = true) then none else dpsts bs l n 0
def dpsts (bs : List Bd) : List Dt → Int → Int → Option Int
  | [], _, m => some m
  | d :: r, n, m => if d.dots = true then dpsts bs r n m else match d.dpst bs (if nxtDots r = true then n + 1 else n) with
    | none => none
    | some q => if nxtDots r = true ∧ q < (if nxtDots r = true then n + 1 else n) then none else dpsts bs r n (max m q)
end
theorem dpst_mk (bs : List Bd) (k : Int) (t : ByteArray) (ms : List Int) (l : List Dt) (p : Int) (n : Int) : (Dt.mk k t ms l p).dpst bs n = match fpos bs (.mk k t ms l p) with
    | some i => if ((bs[i]?).getD bNone).deep = 0 ∨ ((bs[i]?).getD bNone).deep = n then some ((bs[i]?).getD bNone).deep else none
    | none => if (Dt.mk k t ms l p).dots = true ∨ (k = 4 ∧ strays l true = true) then none else dpsts bs l n 0 := by rw [Dt.dpst]
theorem dpsts_cons (bs : List Bd) (d : Dt) (r : List Dt) (n m : Int) : dpsts bs (d :: r) n m = if d.dots = true then dpsts bs r n m else match d.dpst bs (if nxtDots r = true then n + 1 else n) with
    | none => none
    | some q => if nxtDots r = true ∧ q < (if nxtDots r = true then n + 1 else n) then none else dpsts bs r n (max m q) := by rw [dpsts]
theorem dpsts_dots (bs : List Bd) (n m : Int) (d : Dt) (r : List Dt) (h : d.dots = true) : dpsts bs (d :: r) n m = dpsts bs r n m := by rw [dpsts_cons, if_pos h]
end Go.Proofs.Ythhaegncnoekbaa
