/- Texts of data that are no lists. -/
import Derived.Test.YtkjcbaikebdmmaaDoorJ12
namespace Go.Proofs.YtkjcbaikebdmmaaDoor
open Go.RowKit Go.BigM
set_option linter.unusedVariables false
set_option linter.unusedSimpArgs false
theorem sign_plain {c : UInt8} (h : sset.contains c = true) : ([59, 9, 10, 32] : List UInt8).contains c = false ∧ ¬ (c = 40 ∨ c = 39) ∧ c ≠ 41 ∧ c ≠ 35 := by
  have : ∀ c ∈ sset, ([59, 9, 10, 32] : List UInt8).contains c = false ∧ ¬ (c = 40 ∨ c = 39) ∧ c ≠ 41 ∧ c ≠ 35 := by decide
  exact this c (by simpa using h)
theorem row_word {t rest : List UInt8} (h : t.all sset.contains = true) (hn : NoSign rest) : rowOf sset (t ++ rest) = t.length := by
  refine rowOf_end sset (t ++ rest) t.length (by simp) (fun i hi hlt => ?_) (fun hlt => ?_)
  · rw [List.getElem_append_left hlt]
    exact List.all_eq_true.1 h _ (List.getElem_mem _)
  · rw [List.getElem_append_right (Nat.le_refl _)]
    refine hn _ ?_
    have hr : 0 < rest.length := by simp at hlt; omega
    simp only [Nat.sub_self]
    rw [List.head?_eq_getElem?, List.getElem?_eq_getElem hr]
theorem word_head {t rest : List UInt8} (h : t.all sset.contains = true) (h0 : t ≠ []) : ∃ c l, t ++ rest = c :: l ∧ sset.contains c = true := by
  cases t with
  | nil => exact absurd rfl h0
  | cons c t => exact ⟨c, t ++ rest, rfl, by simpa using (List.all_eq_true.1 h c (by simp))⟩
/-- What token makes of a row of signs. -/
def wordOf (t : List UInt8) : Option (Int × ByteArray × Nat) :=
  if isNum t then (if Canon (numOf t) then some (1, ⟨(numOf t).toArray⟩, t.length) else none) else if 0 < rowOf dset t then none else some (3, ⟨t.toArray⟩, t.length)
theorem tok_word {t rest : List UInt8} (h : t.all sset.contains = true) (h0 : t ≠ []) (hn : NoSign rest) : tokOf (t ++ rest) = wordOf t := by
  obtain ⟨c, l, hl, hc⟩ := word_head (rest := rest) h h0
  have hr := row_word h hn
  have h1 : Lib.hasPrefix (t ++ rest) [35] = false := by
    have := (sign_plain hc).2.2.2
    rw [hl]; unfold Lib.hasPrefix; simp [List.isPrefixOf]; exact fun (e : (35 : UInt8) = c) => this e.symm
  have h2 : t.length ≠ 0 := by simpa using h0
  unfold tokOf wordOf
  rw [h1, hr]
  simp only [Bool.false_eq_true, if_false, h2]
  rw [show List.take t.length (t ++ rest) = t by simp]
theorem leaf_word {t : List UInt8} {k : Int} {u : ByteArray} (h : t.all sset.contains = true) (h0 : t ≠ []) (hw : wordOf t = some (k, u, t.length)) : Leaf t k u := by
  intro rest hn
  obtain ⟨c, l, hl, hc⟩ := word_head (rest := rest) h h0
  obtain ⟨p1, p2, p3, _⟩ := sign_plain hc
  exact ⟨by rw [hl]; exact gap_no p1, ⟨c, by rw [hl]; rfl, p2, p3⟩, by rw [tok_word h h0 hn, hw]⟩
theorem row_no {rest : List UInt8} (hn : NoSign rest) : rowOf sset rest = 0 := by
  have := row_word (t := []) (rest := rest) rfl hn
  simpa using this
theorem leaf_true : Leaf [35, 116] 2 ⟨#[35, 116]⟩ := by
  intro rest hn
  refine ⟨gap_no (c := 35) (l := 116 :: rest) (by decide), ⟨35, rfl, by decide, by decide⟩, ?_⟩
  have h1 : Lib.hasPrefix ([35, 116] ++ rest) [35] = true := by simp [Lib.hasPrefix]
  have h2 : Lib.hasPrefix ([35, 116] ++ rest) [35, 116] = true := by simp [Lib.hasPrefix]
  have h3 : bAt ([35, 116] ++ rest) [35, 116] = true := by
    unfold bAt Lib.trimPrefix
    rw [h2]
    simp [row_no hn]
  unfold tokOf boolOf
  rw [h1, h3]
  simp
theorem leaf_false : Leaf [35, 102] 2 ⟨#[35, 102]⟩ := by
  intro rest hn
  refine ⟨gap_no (c := 35) (l := 102 :: rest) (by decide), ⟨35, rfl, by decide, by decide⟩, ?_⟩
  have h1 : Lib.hasPrefix ([35, 102] ++ rest) [35] = true := by simp [Lib.hasPrefix]
  have h2 : Lib.hasPrefix ([35, 102] ++ rest) [35, 102] = true := by simp [Lib.hasPrefix]
  have h4 : Lib.hasPrefix ([35, 102] ++ rest) [35, 116] = false := by simp [Lib.hasPrefix, List.isPrefixOf]
  have h3 : bAt ([35, 102] ++ rest) [35, 102] = true := by
    unfold bAt Lib.trimPrefix
    rw [h2]
    simp [row_no hn]
  have h5 : bAt ([35, 102] ++ rest) [35, 116] = false := by
    unfold bAt
    rw [h4]; rfl
  unfold tokOf boolOf
  rw [h1, h3, h5]
  simp
/-- A datum that Read can take: its text is told by it. -/
inductive Rdb : Dt → Prop
  | leaf {k : Int} {u : ByteArray} {p : Int} : k ≠ 4 → (∀ c ∈ u.data.toList, c ≠ 32) → Leaf u.data.toList k u → Rdb (.mk k u [] [] p)
  | list {l : List Dt} {p : Int} : (∀ d ∈ l, Rdb d) → Rdb (.mk 4 ⟨#[]⟩ [] l p)
end Go.Proofs.YtkjcbaikebdmmaaDoor
