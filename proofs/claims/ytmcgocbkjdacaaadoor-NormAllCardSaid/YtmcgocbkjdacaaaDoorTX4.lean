/- Text's contract. -/
import Derived.Test.YtmcgocbkjdacaaaDoorZC
namespace Go.Proofs.YtmcgocbkjdacaaaDoor
open Go.RowKit Go.BigM
set_option linter.unusedVariables false
set_option linter.unusedSimpArgs false
theorem kind_of_right {k : Int} {t : ByteArray} {ns : List ByteArray} {a : List Et} (h : (Et.mk k t ns a).right num = true) :
    (k = 1 ∨ k = 2 ∨ k = 3 ∨ k = 4 ∨ k = 5 ∨ k = 6 ∨ k = 7 ∨ k = 8 ∨ k = 9 ∨ k = 10) ∧ Et.rights num a = true ∧ (k = 9 → a.length = ns.length + 1 ∧ Once ns) ∧ (k = 10 → 0 < arity t) ∧ (k = 6 → a.length = 1 ∧ Once ns) ∧ (k = 8 → a.length = 3) ∧ (k = 7 → 2 ≤ a.length) ∧ (k = 10 → a.length = arity t) ∧ (k ≠ 6 → k ≠ 9 → ns = []) ∧ (k = 1 ∨ k = 2 ∨ k = 3 ∨ k = 4 ∨ k = 5 → a = []) := by
  rw [right_mk] at h
  simp only [Bool.and_eq_true, shapeB] at h
  obtain ⟨⟨⟨h1, h2⟩, h3⟩, h4⟩ := h
  have hk : k = 1 ∨ k = 2 ∨ k = 3 ∨ k = 4 ∨ k = 5 ∨ k = 6 ∨ k = 7 ∨ k = 8 ∨ k = 9 ∨ k = 10 := by
    unfold textB at h1
    split at h1
    · omega
    · split at h1
      · omega
      · split at h1
        · omega
        · split at h1
          · omega
          · split at h1
            · omega
            · cases h1
  refine ⟨hk, h4, ?_, ?_, ?_, ?_, ?_, ?_, ?_, ?_⟩
  · rintro rfl
    simp [namesB, partsB] at h2 h3
    exact ⟨h3, h2.2⟩
  · rintro rfl
    simpa [textB] using h1
  · rintro rfl
    simp [namesB, partsB] at h2 h3
    exact ⟨h3, h2.2⟩
  · rintro rfl
    simpa [partsB] using h3
  · rintro rfl
    simpa [partsB] using h3
  · rintro rfl
    simpa [partsB] using h3
  · intro h6 h9
    simp [namesB, h6, h9] at h2
    exact h2
  · intro h
    unfold partsB at h3
    rw [if_neg (by omega), if_neg (by omega), if_neg (by omega), if_neg (by omega), if_neg (by omega)] at h3
    simpa using h3
/-- Its length, by its size. -/
theorem jn_le : ∀ (ns : List ByteArray), (∀ s ∈ ns, s.size ≤ 100) → (jn ns).length ≤ 101 * ns.length
  | [], _ => by simp [jn]
  | [s], h => by have := h s (by simp); have h2 := Lib.size_eq s; simp [jn]; omega
  | s :: s2 :: l, h => by
    have h1 := h s (by simp)
    have h2 := Lib.size_eq s
    have h3 := jn_le (s2 :: l) (fun x hx => h x (by simp at hx ⊢; right; exact hx))
    simp only [jn, List.length_append, List.length_cons] at h3 ⊢; omega
mutual
theorem wr_le : ∀ (e : Et), e.fine → e.wr.length + 1 ≤ 30000 * e.size
  | .mk k t ns a, h => by
    have h0 := h
    rw [fine_mk] at h
    obtain ⟨h1, h2, h3, h4⟩ := h
    have h5 := wrs_le a ((fines_all a).2 h4) true
    have h6 := wrs_le a ((fines_all a).2 h4) false
    have h7 := wrbl_le ns a h3 ((fines_all a).2 h4) false
    have h9 := jn_le ns h3
    have h10 := Lib.size_eq t
    rw [wr_mk]
    simp only [Et.size]
    split
    · simp; omega
    · split
      · simp; omega
      · split
        · simp; omega
        · split
          · simp; omega
          · split
            · simp; omega
            · split
              · simp; omega
              · split
                · simp; omega
                · omega
theorem wrs_le : ∀ (l : List Et), Et.fines l → ∀ (b : Bool), (Et.wrs b l).length ≤ 30000 * Et.sizes l
  | [], _, b => by simp [Et.wrs, Et.sizes]
  | e :: l, h, b => by
    have h0 := h
    unfold Et.fines at h0
    have h1 := wr_le e h0.1
    have h2 := wrs_le l h0.2 true
    simp only [Et.wrs, Et.sizes, List.length_append]
    split <;> simp <;> omega
theorem wrbl_le : ∀ (ns : List ByteArray) (l : List Et), (∀ s ∈ ns, s.size ≤ 100) → Et.fines l → ∀ (b : Bool), (Et.wrb b ns l).length + (Et.wrl ns l).length ≤ 104 * ns.length + 30000 * Et.sizes l
  | [], [], _, _, b => by simp [Et.wrb, Et.wrl]
  | [], e :: l, hs, h, b => by
    have h0 := h
    unfold Et.fines at h0
    have h1 := wr_le e h0.1
    have h2 := wrbl_le [] l hs h0.2 true
    have e1 : Et.wrb b [] (e :: l) = [] := by unfold Et.wrb; rfl
    have e2 : Et.wrb true [] l = [] := by cases l <;> (unfold Et.wrb; rfl)
    rw [e2] at h2
    rw [e1]
    simp only [Et.wrl, Et.sizes, List.length_append, List.length_cons, List.length_nil] at h2 ⊢; omega
  | s :: ns, [], _, _, b => by simp [Et.wrb, Et.wrl]
  | s :: ns, e :: l, hs, h, b => by
    have h0 := h
    unfold Et.fines at h0
    have h1 := wr_le e h0.1
    have h2 := wrbl_le ns l (fun x hx => hs x (by simp [hx])) h0.2 true
    have h3 := hs s (by simp)
    have h4 := Lib.size_eq s
    simp only [Et.wrb, Et.wrl, Et.sizes, List.length_append, List.length_cons]
    split <;> simp <;> omega
end
end Go.Proofs.YtmcgocbkjdacaaaDoor
