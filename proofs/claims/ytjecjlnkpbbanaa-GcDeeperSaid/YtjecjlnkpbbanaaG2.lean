/- What is left: closed; the deeper one looks, the less. -/
import Derived.Test.YtjecjlnkpbbanaaG1
namespace Go.Proofs.Ytjecjlnkpbbanaa
set_option linter.unusedVariables false
set_option linter.unusedSimpArgs false
theorem lead_pre {os : List Ob} {dp : Nat} {D0 : List Int} {k : Nat} {j : Nat} (h : k < (lead os dp D0 (k + j)).length) : k < (lead os dp D0 k).length := by
  apply Decidable.byContradiction
  intro hn
  rw [lead_stop (by omega) j] at h
  exact hn h
theorem lead_at {os : List Ob} {dp : Nat} {D0 : List Int} {k j : Nat} {a : Int} (h : (lead os dp D0 (k + j))[k]? = some a) : (lead os dp D0 k)[k]? = some a := by
  have h1 := (List.getElem?_eq_some_iff.1 h).1
  have h2 := lead_pre h1
  obtain ⟨E, hE⟩ := lead_ext os dp D0 k j
  rw [hE, List.getElem?_append_left h2] at h
  exact h
/-- All that is copied, and what its pointers come to. -/
theorem allD_roots {os : List Ob} (dp : Nat) {rs : List Int} : ∀ r ∈ rs, shortO os dp r ∈ allD os dp rs := by
  intro r hr
  unfold allD
  obtain ⟨E, hE⟩ := lead_ext os dp (vis os dp [] rs) 0 os.length
  rw [Nat.zero_add] at hE
  rw [hE]
  exact List.mem_append_left _ ((vis_mem os dp rs [] _).2 (.inr ⟨r, hr, rfl⟩))
theorem allD_closed {os : List Ob} (hc : Closed os) (hk : Oks os) (dp : Nat) {rs : List Int} (hr : ∀ r ∈ rs, Vd os r) : ∀ a ∈ allD os dp rs, ∀ p ∈ ptrsOf os a, shortO os dp p ∈ allD os dp rs := by
  intro a ha p hp
  obtain ⟨k, hkl, e⟩ := List.getElem_of_mem ha
  have hg := allD_good hc hk dp hr
  have hlen := len_total hg.1 hg.2
  obtain ⟨j, hj⟩ : ∃ j, os.length = k + 1 + j := ⟨os.length - (k + 1), by omega⟩
  have h1 : (lead os dp (vis os dp [] rs) (k + (j + 1)))[k]? = some a := by
    rw [show k + (j + 1) = os.length by omega, ← e]
    exact List.getElem?_eq_getElem hkl
  have h2 := lead_at h1
  obtain ⟨h3, h4⟩ := List.getElem?_eq_some_iff.1 h2
  have h5 := lead_some h3
  rw [h4] at h5
  unfold allD
  rw [hj]
  obtain ⟨E, hE⟩ := lead_ext os dp (vis os dp [] rs) (k + 1) j
  rw [hE, h5]
  exact List.mem_append_left _ ((vis_mem _ _ _ _ _).2 (.inr ⟨p, hp, rfl⟩))
/-- Whatever holds of the roots' ends, and goes on along pointers, holds of all that is copied. -/
theorem lead_all {os : List Ob} {dp : Nat} {S : Int → Prop} (hS : ∀ a, S a → ∀ p ∈ ptrsOf os a, S (shortO os dp p)) {D0 : List Int} (h0 : ∀ a ∈ D0, S a) : ∀ k, ∀ a ∈ lead os dp D0 k, S a
  | 0 => h0
  | k + 1 => by
    have ih := lead_all hS h0 k
    by_cases h : k < (lead os dp D0 k).length
    · rw [lead_some h]
      intro a ha
      rcases (vis_mem _ _ _ _ _).1 ha with h1 | ⟨p, hp, rfl⟩
      · exact ih a h1
      · exact hS _ (ih _ (List.getElem_mem _)) p hp
    · rw [lead_none (by omega)]; exact ih
theorem allD_all {os : List Ob} {dp : Nat} {rs : List Int} {S : Int → Prop} (hS : ∀ a, S a → ∀ p ∈ ptrsOf os a, S (shortO os dp p)) (h0 : ∀ r ∈ rs, S (shortO os dp r)) : ∀ a ∈ allD os dp rs, S a :=
  lead_all hS (fun a ha => by
    rcases (vis_mem _ _ _ _ _).1 ha with h1 | ⟨p, hp, rfl⟩
    · cases h1
    · exact h0 p hp) _
theorem short_in {os : List Ob} (hc : Closed os) (hk : Oks os) {S : Int → Prop} (hS : ∀ a, S a → ∀ p ∈ ptrsOf os a, S (endO os p)) : ∀ (d : Nat) (p : Int), Vd os p → S (endO os p) → S (shortO os d p)
  | 0, p, _, h => h
  | d + 1, p, hv, h => by
    unfold shortO
    split
    · rename_i h6
      obtain ⟨q, hq⟩ := endO_valid hv
      rw [hdo_tag hq] at h6
      obtain ⟨x, e1, hx, e2⟩ := sel_ptr hc hk hq h6
      have h1 := short_in hc hk hS d x hx (hS _ h x (by rw [e1]; simp))
      rw [e1]
      show S (if (hdo os (shortO os d x)).t = 2 then shortO os d ((ptrsOf os (shortO os d x)).getD ((numsOf os (endO os p)).headD 0).toNat 0) else endO os p)
      by_cases h2 : (hdo os (shortO os d x)).t = 2
      · rw [if_pos h2]
        obtain ⟨r, hr⟩ := shortO_valid hc hk d hx
        rw [hdo_tag hr] at h2
        obtain ⟨y, z, e3, hy, hz⟩ := con_ptr hc hk hr h2
        rw [e3]
        rcases e2 with e | e <;> rw [e]
        · exact short_in hc hk hS d y hy (hS _ h1 y (by rw [e3]; simp))
        · exact short_in hc hk hS d z hz (hS _ h1 z (by rw [e3]; simp))
      · rw [if_neg h2]; exact h
    · exact h
theorem deeper_sub {os : List Ob} (hc : Closed os) (hk : Oks os) (dp : Nat) {rs : List Int} (hr : ∀ r ∈ rs, Vd os r) : ∀ a ∈ allD os dp rs, a ∈ allD os 0 rs := by
  have hS : ∀ a, a ∈ allD os 0 rs → ∀ p ∈ ptrsOf os a, endO os p ∈ allD os 0 rs := allD_closed hc hk 0 hr
  refine allD_all (S := fun a => a ∈ allD os 0 rs) (fun a ha p hp => ?_) (fun r h => ?_)
  · exact short_in hc hk hS dp p (ptrsOf_valid hc p hp) (hS a ha p hp)
  · exact short_in hc hk hS dp r (hr r h) (allD_roots 0 r h)
theorem finQ_lk (os : List Ob) (dp : Nat) (D : List Int) : ∀ E : List Int, Lk os E (E.map fun a => (ptrsOf os a).map fun p => (pos os D (shortO os dp p) : Int))
  | [] => .nil
  | a :: E => .cons (by rw [List.length_map]) (finQ_lk os dp D E)
theorem gcO_total (os : List Ob) (dp : Nat) (rs : List Int) : total (gcO os dp rs) = sm (sz os) (allD os dp rs) := cps_total (finQ_lk os dp _ _)
theorem gcO_less {os : List Ob} (hc : Closed os) (hk : Oks os) (dp : Nat) {rs : List Int} (hr : ∀ r ∈ rs, Vd os r) : total (gcO os dp rs) ≤ total (gcO os 0 rs) ∧ total (gcO os 0 rs) ≤ total os := by
  rw [gcO_total, gcO_total]
  have h1 := allD_good hc hk dp hr
  have h2 := allD_good hc hk 0 hr
  exact ⟨sm_le _ _ _ h1.1 (deeper_sub hc hk dp hr), sm_total hk h2.1 h2.2⟩
end Go.Proofs.Ytjecjlnkpbbanaa
