/- Two that are gone through in step. -/
import Derived.Test.YtjecjlnkpbbanaaG6
namespace Go.Proofs.Ytjecjlnkpbbanaa
set_option linter.unusedVariables false
set_option linter.unusedSimpArgs false
structure Sb (os : List Ob) (rs : List Int) (Q S : List Int) : Prop where
  qv : ∀ q ∈ Q, Vd os q
  qd : ∀ q ∈ Q, endO os q ∈ allD os 0 rs
  sn : S.Nodup
  sv : ∀ s ∈ S, Vd os s
  len : Q.length = rs.length + sm (fun a => (ptrsOf os a).length) S
theorem Sb.start {os : List Ob} {rs : List Int} (h : ∀ q ∈ rs, Vd os q) : Sb os rs rs [] := ⟨h, fun q hq => allD_roots 0 q hq, by simp, by simp, by simp [sm]⟩
theorem Sb.more {os : List Ob} {rs Q S : List Int} (h : Sb os rs Q S) (hc : Closed os) (hk : Oks os) (hr : ∀ r ∈ rs, Vd os r) {a : Int} (ha : a ∈ allD os 0 rs) (hs : a ∉ S) : Sb os rs (Q ++ ptrsOf os a) (S ++ [a]) := by
  refine ⟨fun x hx => ?_, fun x hx => ?_, ?_, fun x hx => ?_, ?_⟩
  · rcases List.mem_append.1 hx with h1 | h1
    · exact h.qv x h1
    · exact ptrsOf_valid hc x h1
  · rcases List.mem_append.1 hx with h1 | h1
    · exact h.qd x h1
    · exact allD_closed hc hk 0 hr a ha x h1
  · rw [List.nodup_append]; exact ⟨h.sn, by simp, fun x hx b hb => by simp at hb; subst hb; exact fun e => hs (e ▸ hx)⟩
  · rcases List.mem_append.1 hx with h1 | h1
    · exact h.sv x h1
    · rw [List.mem_singleton.1 h1]; exact (allD_good hc hk 0 hr).2 a ha
  · rw [List.length_append, sm_app, h.len]; simp only [sm]; omega
theorem Sb.bound {os : List Ob} {rs Q S : List Int} (h : Sb os rs Q S) (hk : Oks os) : Q.length ≤ rs.length + total os := by
  have h1 : ∀ T : List Int, sm (fun a => (ptrsOf os a).length) T ≤ sm (sz os) T := by
    intro T
    induction T with
    | nil => exact Nat.le_refl _
    | cons a T ih => simp only [sm]; have : (ptrsOf os a).length ≤ sz os a := by unfold sz; omega
                     omega
  have h2 := sm_total hk h.sn h.sv
  have := h1 S
  rw [h.len]; omega
/-- Where the partner stands. -/
def pt (os : List Ob) (rs : List Int) (q : Int) : Int := ph os 0 rs (endO os q)
theorem pt_ptrs {os : List Ob} (hc : Closed os) (hk : Oks os) {rs : List Int} (hr : ∀ r ∈ rs, Vd os r) {a : Int} (ha : a ∈ allD os 0 rs) : ptrsOf (gcO os 0 rs) (ph os 0 rs a) = (ptrsOf os a).map (pt os rs) := (gc_ptrs hc hk 0 hr ha).1
theorem fol_neg {os : List Ob} {q : Int} (hq : Vd os q) (h : folOf os q < 0) : endO os q = q ∧ (hdo os q).t = 5 := by
  have e : endO os q = q := by unfold endO; rw [if_pos h]
  refine ⟨e, ?_⟩
  obtain ⟨o, ho⟩ := hq
  rw [hdo_tag ho]
  apply Decidable.byContradiction
  intro h5
  rw [fol_self ho h5] at h
  have := (ob_pos ho).1
  omega
theorem fol_pos {os : List Ob} {q : Int} (h : ¬ folOf os q < 0) : folOf os q = endO os q := by unfold endO; rw [if_neg h]
end Go.Proofs.Ytjecjlnkpbbanaa
