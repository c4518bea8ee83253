/- What is gone through from the roots. -/
import Derived.Test.YtjecjlnkpbbanaaZG
namespace Go.Proofs.Ytjecjlnkpbbanaa
set_option linter.unusedVariables false
set_option linter.unusedSimpArgs false
structure Bf (os : List Ob) (R0 : List Int) (Q S : List Int) (i : Nat) : Prop where
  qv : ∀ q ∈ Q, Vd os q
  pre : ∃ E, Q = R0 ++ E
  sn : S.Nodup
  sv : ∀ s ∈ S, Vd os s
  cl : ∀ s ∈ S, ∀ p ∈ ptrsOf os s, p ∈ Q
  dn : ∀ (j : Nat) (q : Int), j < i → Q[j]? = some q → q ∈ S
  len : Q.length = R0.length + sm (fun a => (ptrsOf os a).length) S
theorem Bf.start {os : List Ob} {R0 : List Int} (h : ∀ q ∈ R0, Vd os q) : Bf os R0 R0 [] 0 :=
  ⟨h, ⟨[], by simp⟩, by simp, by simp, by simp, fun j q hj => by omega, by simp [sm]⟩
theorem Bf.skip {os : List Ob} {R0 Q S : List Int} {i : Nat} (h : Bf os R0 Q S i) {q : Int} (hq : Q[i]? = some q) (hs : q ∈ S) : Bf os R0 Q S (i + 1) :=
  ⟨h.qv, h.pre, h.sn, h.sv, h.cl, fun j x hj hx => by
    by_cases e : j < i
    · exact h.dn j x e hx
    · obtain rfl : j = i := by omega
      rw [hq] at hx; injection hx with hx; rw [← hx]; exact hs, h.len⟩
theorem Bf.more {os : List Ob} {R0 Q S : List Int} {i : Nat} (h : Bf os R0 Q S i) (hc : Closed os) {q : Int} (hq : Q[i]? = some q) (hs : q ∉ S) : Bf os R0 (Q ++ ptrsOf os q) (S ++ [q]) (i + 1) := by
  have hil := (List.getElem?_eq_some_iff.1 hq).1
  have hqv : Vd os q := h.qv q (by obtain ⟨h1, h2⟩ := List.getElem?_eq_some_iff.1 hq; rw [← h2]; exact List.getElem_mem _)
  refine ⟨fun x hx => ?_, ?_, ?_, fun x hx => ?_, fun s hs2 p hp => ?_, fun j x hj hx => ?_, ?_⟩
  · rcases List.mem_append.1 hx with h1 | h1
    · exact h.qv x h1
    · exact ptrsOf_valid hc x h1
  · obtain ⟨E, hE⟩ := h.pre
    exact ⟨E ++ ptrsOf os q, by rw [hE, List.append_assoc]⟩
  · rw [List.nodup_append]; exact ⟨h.sn, by simp, fun a ha b hb => by simp at hb; subst hb; exact fun e => hs (e ▸ ha)⟩
  · rcases List.mem_append.1 hx with h1 | h1
    · exact h.sv x h1
    · rw [List.mem_singleton.1 h1]; exact hqv
  · rcases List.mem_append.1 hs2 with h1 | h1
    · exact List.mem_append_left _ (h.cl s h1 p hp)
    · rw [List.mem_singleton.1 h1] at hp; exact List.mem_append_right _ hp
  · rw [List.getElem?_append_left (by omega)] at hx
    by_cases e : j < i
    · exact List.mem_append_left _ (h.dn j x e hx)
    · obtain rfl : j = i := by omega
      rw [hq] at hx; injection hx with hx; rw [← hx]; simp
  · rw [List.length_append, sm_app, h.len]; simp only [sm]; omega
theorem Bf.bound {os : List Ob} {R0 Q S : List Int} {i : Nat} (h : Bf os R0 Q S i) (hk : Oks os) : Q.length ≤ R0.length + total os := by
  have h1 : ∀ T : List Int, sm (fun a => (ptrsOf os a).length) T ≤ sm (sz os) T := by
    intro T
    induction T with
    | nil => exact Nat.le_refl _
    | cons a T ih => simp only [sm]; have : (ptrsOf os a).length ≤ sz os a := by unfold sz; omega
                     omega
  have h2 := sm_total hk h.sn h.sv
  have := h1 S
  rw [h.len]; omega
theorem Bf.done {os : List Ob} {R0 Q S : List Int} {i : Nat} (h : Bf os R0 Q S i) (hi : Q.length ≤ i) : (∀ r ∈ R0, r ∈ S) ∧ ∀ s ∈ S, ∀ p ∈ ptrsOf os s, p ∈ S := by
  have hq : ∀ q ∈ Q, q ∈ S := fun q hq => by
    obtain ⟨j, hj, e⟩ := List.getElem_of_mem hq
    exact h.dn j q (by omega) (by rw [List.getElem?_eq_getElem hj, e])
  obtain ⟨E, hE⟩ := h.pre
  exact ⟨fun r hr => hq r (by rw [hE]; exact List.mem_append_left _ hr), fun s hs p hp => hq p (h.cl s hs p hp)⟩
theorem gc_reach {os : List Ob} (hc : Closed os) (hk : Oks os) (dp : Nat) {rs : List Int} (hr : ∀ r ∈ rs, Vd os r) {Q S : List Int} {i : Nat} (h : Bf (gcO os dp rs) (gcR os dp rs) Q S i) (hi : Q.length ≤ i) : ∀ x, Vd (gcO os dp rs) x → x ∈ S := by
  obtain ⟨h1, h2⟩ := h.done hi
  intro x hx
  obtain ⟨a, ha, rfl⟩ := gcO_vd hc hk dp hr hx
  have key : ∀ a ∈ allD os dp rs, a ∈ allD os dp rs ∧ ph os dp rs a ∈ S :=
    allD_all (S := fun a => a ∈ allD os dp rs ∧ ph os dp rs a ∈ S) (fun a ha p hp => ⟨allD_closed hc hk dp hr a ha.1 p hp, h2 _ ha.2 _ (by rw [(gc_ptrs hc hk dp hr ha.1).1]; exact List.mem_map.2 ⟨p, hp, rfl⟩)⟩)
      (fun r hr2 => ⟨allD_roots dp r hr2, h1 _ (List.mem_map.2 ⟨r, hr2, rfl⟩)⟩)
  exact (key a ha).2
/-- Marks, as a row. -/
def SeenAt (l : List Bool) (S : List Int) : Prop := ∀ (a : Nat) (v : Bool), l[a]? = some v → (v = true ↔ (a : Int) ∈ S)
theorem SeenAt.start (n : Nat) : SeenAt (List.replicate n false) [] := fun a v h => by
  rw [List.getElem?_replicate] at h
  split at h
  · injection h with h; subst h; simp
  · cases h
theorem SeenAt.more {l : List Bool} {S : List Int} (h : SeenAt l S) {a : Nat} (ha : a < l.length) : SeenAt (l.set a true) (S ++ [(a : Int)]) := fun x v hx => by
  rw [List.getElem?_set] at hx
  by_cases e : a = x
  · subst e
    rw [if_pos rfl, if_pos ha] at hx
    injection hx with hx
    subst hx; simp
  · rw [if_neg e] at hx
    rw [h x v hx, List.mem_append, List.mem_singleton]
    constructor
    · exact .inl
    · rintro (h1 | h1)
      · exact h1
      · omega
theorem gc_follow {os : List Ob} {x : Int} (hx : Vd os x) (he : endO os x = x) (ht : (hdo os x).t = 5) : folOf os x = -1 := by
  rcases endO_cases hx with ⟨e, _⟩ | ⟨q, hq, h5, _⟩
  · exact e
  · rw [he] at hq
    rw [hdo_tag hq] at ht
    exact absurd ht h5
end Go.Proofs.Ytjecjlnkpbbanaa
