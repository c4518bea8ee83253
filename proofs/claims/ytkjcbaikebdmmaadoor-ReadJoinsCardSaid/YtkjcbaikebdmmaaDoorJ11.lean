/- Read as a machine: more steps change nothing; it ends. -/
import Derived.Test.YtkjcbaikebdmmaaDoorJ10
namespace Go.Proofs.YtkjcbaikebdmmaaDoor
open Go.RowKit Go.BigM
set_option linter.unusedVariables false
set_option linter.unusedSimpArgs false
theorem bAt_len {l t : List UInt8} (h : bAt l t = true) : t.length ≤ l.length := by
  unfold bAt at h
  have h1 : Lib.hasPrefix l t = true := by
    cases hp : Lib.hasPrefix l t with
    | true => rfl
    | false => simp [hp] at h
  unfold Lib.hasPrefix at h1
  exact (List.isPrefixOf_iff_prefix.1 h1).length_le
theorem tokOf_le {l : List UInt8} {k : Int} {t : ByteArray} {m : Nat} (h : tokOf l = some (k, t, m)) : m ≤ l.length := by
  have hr := rowOf_le sset l
  unfold tokOf at h
  split at h
  · cases hb : boolOf l with
    | none => rw [hb] at h; cases h
    | some b =>
      rw [hb] at h
      injection h with h; injection h with _ h; injection h with _ h
      unfold boolOf at hb
      split at hb
      · rename_i h1; have := bAt_len h1; simp at this; omega
      · split at hb
        · rename_i h1; have := bAt_len h1; simp at this; omega
        · cases hb
  · split at h
    · cases h
    · split at h
      · split at h
        · injection h with h; injection h with _ h; injection h with _ h; omega
        · cases h
      · split at h
        · cases h
        · injection h with h; injection h with _ h; injection h with _ h; omega
theorem rd_mono (s : List UInt8) : ∀ (n : Nat) (pc : Pc) (p : Nat) (e : En) (r : List En) (R : Rs), rd s n pc p e r = some R → rd s (n + 1) pc p e r = some R := by
  intro n
  induction n with
  | zero => intro pc p e r R h; cases h
  | succ n ih =>
    intro pc p e r R h
    cases pc with
    | next =>
      unfold rd at h ⊢
      split at h
      · exact ih _ _ _ _ _ h
      · split at h
        · rename_i h1; rw [if_pos h1]; exact ih _ _ _ _ _ h
        · rename_i h1
          rw [if_neg h1]
          split at h
          · rename_i h2; rw [if_pos h2]; exact ih _ _ _ _ _ h
          · rename_i h2; rw [if_neg h2]; exact ih _ _ _ _ _ h
    | begin =>
      unfold rd at h ⊢
      split at h
      · cases h
      · split at h
        · rename_i h1; rw [if_pos h1]; exact h
        · rename_i h1; rw [if_neg h1]; exact ih _ _ _ _ _ h
    | finish =>
      unfold rd at h ⊢
      split at h
      · exact h
      · split at h
        · rename_i h1; rw [if_pos h1]; exact h
        · rename_i h1; rw [if_neg h1]; exact ih _ _ _ _ _ h
    | token =>
      unfold rd at h ⊢
      split at h
      · exact h
      · exact ih _ _ _ _ _ h
    | put d =>
      unfold rd at h ⊢
      split at h
      · rename_i h1
        rw [if_pos h1]
        split at h
        · cases h
        · exact ih _ _ _ _ _ h
      · rename_i h1; rw [if_neg h1]; exact ih _ _ _ _ _ h
    | stop => unfold rd at h ⊢; exact h
theorem rd_more {s : List UInt8} {n m : Nat} {pc : Pc} {p : Nat} {e : En} {r : List En} {R : Rs} (h : rd s n pc p e r = some R) (hm : n ≤ m) : rd s m pc p e r = some R := by
  obtain ⟨k, rfl⟩ : ∃ k, m = n + k := ⟨m - n, by omega⟩
  induction k with
  | zero => exact h
  | succ k ih => exact rd_mono s _ _ _ _ _ _ (ih (by omega))
/-- The outermost list is the text's own. -/
def Outer : En → List En → Prop
  | e, [] => e.q = false
  | _, f :: r => Outer f r
theorem Outer.add {e : En} {r : List En} (h : Outer e r) (d : Dt) : Outer (e.add d) r := by
  cases r with
  | nil => exact h
  | cons f r => exact h
def Pc.rank : Pc → Nat
  | .put _ => 3 | .next => 2 | _ => 1
def Pc.fits (s : List UInt8) (p : Nat) : Pc → Prop
  | .begin => p < s.length | .finish => p < s.length | .token => p < s.length | _ => p ≤ s.length
theorem rd_total (s : List UInt8) : ∀ (n : Nat) (pc : Pc) (p : Nat) (e : En) (r : List En), 8 * (2 * (s.length - p) + r.length) + pc.rank ≤ n → pc.fits s p → Outer e r → ∃ R, rd s n pc p e r = some R := by
  intro n
  induction n with
  | zero => intro pc p e r h; cases pc <;> simp [Pc.rank] at h
  | succ n ih =>
    intro pc p e r h hp ho
    cases pc with
    | next =>
      have hp : p ≤ s.length := hp
      have hg : gapOf false (s.drop p) ≤ s.length - p := by have := gapOf_le false (s.drop p); simpa using this
      simp only [Pc.rank] at h
      unfold rd
      split
      · exact ih _ _ _ _ (by simp [Pc.rank]; omega) (by simp only [Pc.fits]; omega) ho
      · rename_i b hb
        have hlt := (List.getElem?_eq_some_iff.1 hb).1
        split
        · exact ih _ _ _ _ (by simp [Pc.rank]; omega) (by simp only [Pc.fits]; omega) ho
        · split
          · exact ih _ _ _ _ (by simp [Pc.rank]; omega) (by simp only [Pc.fits]; omega) ho
          · exact ih _ _ _ _ (by simp [Pc.rank]; omega) (by simp only [Pc.fits]; omega) ho
    | begin =>
      have hp : p < s.length := hp
      simp only [Pc.rank] at h
      unfold rd
      rw [List.getElem?_eq_getElem hp]
      simp only
      split
      · exact ⟨_, rfl⟩
      · exact ih _ _ _ _ (by simp [Pc.rank]; omega) (by simp only [Pc.fits]; omega) ho
    | finish =>
      have hp : p < s.length := hp
      simp only [Pc.rank] at h
      unfold rd
      cases r with
      | nil => exact ⟨_, rfl⟩
      | cons f r =>
        simp only
        split
        · exact ⟨_, rfl⟩
        · exact ih _ _ _ _ (by simp [Pc.rank] at h ⊢; omega) (by simp only [Pc.fits]; omega) ho
    | token =>
      have hp : p < s.length := hp
      simp only [Pc.rank] at h
      unfold rd
      split
      · exact ⟨_, rfl⟩
      · rename_i k t m ht
        have h1 := tokOf_pos ht
        have h2 := tokOf_le ht
        simp only [List.length_drop] at h2
        exact ih _ _ _ _ (by simp [Pc.rank]; omega) (by simp only [Pc.fits]; omega) ho
    | put d =>
      have hp : p ≤ s.length := hp
      simp only [Pc.rank] at h
      unfold rd
      split
      · rename_i hq
        cases r with
        | nil => exact absurd hq (by rw [show e.q = false from ho]; decide)
        | cons f r => exact ih _ _ _ _ (by simp [Pc.rank] at h ⊢; omega) hp ho
      · exact ih _ _ _ _ (by simp [Pc.rank] at h ⊢; omega) hp (ho.add d)
    | stop => unfold rd; split <;> exact ⟨_, rfl⟩
theorem rd_ends (s : List UInt8) : ∃ R, rd s (16 * s.length + 2) .next 0 ⟨0, false, []⟩ [] = some R :=
  rd_total s _ _ _ _ _ (by simp [Pc.rank]; omega) (Nat.zero_le _) rfl
end Go.Proofs.YtkjcbaikebdmmaaDoor
