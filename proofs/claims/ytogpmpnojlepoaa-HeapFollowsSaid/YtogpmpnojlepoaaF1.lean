/- HeapFollows: objects that lead on in a chain, or round. -/
import Derived.Test.YtogpmpnojlepoaaLO0
namespace Go.Proofs.Ytogpmpnojlepoaa
open Go Go.RowKit
set_option linter.unusedVariables false
set_option linter.unusedSimpArgs false
def Inj (l : List Int) : Prop := ∀ i j (hi : i < l.length) (hj : j < l.length), l[i] = l[j] → i = j
/-- The first i of the row lead to the next one, the last one to the first; the others hold a number. -/
def Ch (os : List Ob) (l : List Int) (i : Nat) : Prop := os.length = l.length ∧ total os = 2 * l.length ∧ Inj l ∧ ∀ j (h : j < l.length), ∃ o, ob os l[j] = some o ∧ o.body.length = 1 ∧ (j < i → o.tag = 5 ∧ o.body = [l.getD ((j + 1) % l.length) 0]) ∧ (i ≤ j → o.tag = 4)
theorem getD_at {l : List Int} {i : Nat} (h : i < l.length) : l.getD i 0 = l[i] := by rw [List.getD_eq_getElem?_getD, List.getElem?_eq_getElem h]; rfl
theorem ch_base {os : List Ob} (h : ∀ o ∈ os, o.tag = 4 ∧ o.body.length = 1) (ht : total os = 2 * os.length) : Ch os (adrs os) 0 := by
  refine ⟨(adrs_len os).symm, by rw [adrs_len, ht], fun i j hi hj e => ?_, fun j hj => ?_⟩
  · rw [adrs_get, adrs_get] at e
    rw [adrs_len] at hi hj
    exact adr_inj hi hj (by omega)
  · have hj' : j < os.length := by rw [adrs_len] at hj; exact hj
    rw [adrs_get]
    have h1 := h _ (List.getElem_mem hj')
    exact ⟨os[j], ob_loc (loc_adr os j hj'), h1.2, fun e => by omega, fun _ => h1.1⟩
theorem ch_swap {os : List Ob} {l : List Int} (h : Ch os l 0) {i j : Nat} (hi : i < l.length) (hj : j < l.length) : Ch os ((l.set i l[j]).set j l[i]) 0 := by
  obtain ⟨h1, h2, h3, h4⟩ := h
  have hl : ((l.set i l[j]).set j l[i]).length = l.length := by simp
  have hg : ∀ k (hk : k < ((l.set i l[j]).set j l[i]).length), ∃ k', ∃ hk' : k' < l.length, ((l.set i l[j]).set j l[i])[k] = l[k'] ∧ ((k = j ∧ k' = i) ∨ (k ≠ j ∧ k = i ∧ k' = j) ∨ (k ≠ j ∧ k ≠ i ∧ k' = k)) := by
    intro k hk
    rw [List.getElem_set]
    split
    · exact ⟨i, hi, rfl, .inl ⟨by omega, rfl⟩⟩
    · rw [List.getElem_set]
      split
      · exact ⟨j, hj, rfl, .inr (.inl ⟨by omega, by omega, rfl⟩)⟩
      · exact ⟨k, by omega, rfl, .inr (.inr ⟨by omega, by omega, rfl⟩)⟩
  refine ⟨by rw [hl, h1], by rw [hl, h2], fun a c ha hc e => ?_, fun k hk => ?_⟩
  · obtain ⟨a', ha', e1, d1⟩ := hg a ha
    obtain ⟨c', hc', e2, d2⟩ := hg c hc
    rw [e1, e2] at e
    have := h3 a' c' ha' hc' e
    omega
  · obtain ⟨k', hk', e1, -⟩ := hg k hk
    rw [e1]
    obtain ⟨o, o1, o2, -, o4⟩ := h4 k' hk'
    exact ⟨o, o1, o2, fun e => by omega, fun _ => o4 (Nat.zero_le _)⟩
theorem ch_loc {os : List Ob} {l : List Int} {i j : Nat} (h : Ch os l i) (hj : j < l.length) : ∃ k, ∃ hk : k < os.length, loc os l[j] = some k ∧ l[j] = adr os k ∧ ob os l[j] = some os[k] := by
  obtain ⟨o, o1, -⟩ := h.2.2.2 j hj
  obtain ⟨k, hk, e1, e2, e3⟩ := ob_some o1
  exact ⟨k, hk, e1, e2, by rw [o1, e3]⟩
theorem ch_step {os : List Ob} {l : List Int} {i k : Nat} (h : Ch os l i) (hi : i < l.length) (hk : loc os l[i] = some k) : Ch (upd os k (fun o => overO o (l.getD ((i + 1) % l.length) 0))) l (i + 1) := by
  obtain ⟨hkl, hka⟩ := loc_some hk
  obtain ⟨h1, h2, h3, h4⟩ := h
  obtain ⟨o, o1, o2, -, -⟩ := h4 i hi
  have e0 : o = os[k] := by rw [ob_loc hk] at o1; injection o1 with o1; exact o1.symm
  subst e0
  rw [upd_eq hkl]
  have e : (overO os[k] (l.getD ((i + 1) % l.length) 0)).body.length = os[k].body.length := by simp [overO]
  refine ⟨by rw [List.length_set, h1], by rw [total_set hkl e, h2], h3, fun j hj => ?_⟩
  rw [ob_set hkl e]
  by_cases hji : j = i
  · subst hji
    rw [if_pos hka]
    refine ⟨_, rfl, by rw [e, o2], fun _ => ⟨rfl, ?_⟩, fun h => by omega⟩
    show os[k].body.set 0 _ = _
    match hb : os[k].body, o2 with
    | [x], _ => rfl
  · rw [if_neg (fun e2 => hji (h3 j i hj hi (by rw [e2, hka])))]
    obtain ⟨p, p1, p2, p3, p4⟩ := h4 j hj
    exact ⟨p, p1, p2, fun h => p3 (by omega), fun h => p4 (by omega)⟩
theorem ch_nxt {os : List Ob} {l : List Int} {i j : Nat} (h : Ch os l i) (hj : j < l.length) (hi : j < i) : nxt os (l.getD j 0) = some (l.getD ((j + 1) % l.length) 0) := by
  obtain ⟨o, o1, o2, o3, -⟩ := h.2.2.2 j hj
  obtain ⟨t, hb⟩ := o3 hi
  rw [getD_at hj]
  unfold nxt
  rw [o1]
  simp only [t, hb, if_pos, List.headD_cons]
theorem ch_it {os : List Ob} {l : List Int} {i j : Nat} (h : Ch os l i) (hj : j < l.length) : ∀ t, (∀ s, s < t → (j + s) % l.length < i) → it os t l[j] = l.getD ((j + t) % l.length) 0
  | 0, _ => by show l[j] = _; rw [Nat.add_zero, Nat.mod_eq_of_lt hj, getD_at hj]
  | t + 1, ht => by
    show (nxt os (it os t l[j])).getD 0 = _
    rw [ch_it h hj t (fun s hs => ht s (by omega)), ch_nxt h (Nat.mod_lt _ (by omega)) (ht t (by omega)), Nat.mod_add_mod]
    rfl
theorem ch_led {os : List Ob} {l : List Int} {i j t : Nat} (h : Ch os l i) (hj : j < l.length) (ht : ∀ s, s < t → (j + s) % l.length < i) : ledTo os l[j] t := by
  intro s hs
  rw [ch_it h hj s (fun q hq => ht q (by omega)), ch_nxt h (Nat.mod_lt _ (by omega)) (ht s hs)]
  rfl
/-- Round: nowhere. -/
theorem ch_ring {os : List Ob} {l : List Int} {j : Nat} (hc : Closed os) (hk : Oks os) (h : Ch os l l.length) (hj : j < l.length) : folOf os l[j] = -1 := by
  obtain ⟨o, o1, -⟩ := h.2.2.2 j hj
  have hb : ∀ t s, s < t → (j + s) % l.length < l.length := fun t s _ => Nat.mod_lt _ (by omega)
  refine fol_round hc hk o1 (i := 0) (j := l.length) (by omega) ?_ (ch_led h hj (hb _))
  rw [ch_it h hj _ (hb _), Nat.add_mod_right, Nat.mod_eq_of_lt hj, getD_at hj]
  rfl
/-- In a chain: the last one. -/
theorem ch_end {os : List Ob} {l : List Int} {i j : Nat} (hc : Closed os) (hk : Oks os) (h : Ch os l i) (hi : i + 1 = l.length) (hj : j < l.length) : folOf os l[j] = l.getD i 0 := by
  obtain ⟨o, o1, -⟩ := h.2.2.2 j hj
  have hb : ∀ s, s < i - j → (j + s) % l.length < i := fun s hs => by rw [Nat.mod_eq_of_lt (by omega)]; omega
  have e := ch_it h hj (i - j) hb
  rw [show j + (i - j) = i by omega, Nat.mod_eq_of_lt (by omega)] at e
  obtain ⟨r, r1, -, -, r4⟩ := h.2.2.2 i (by omega)
  rw [← e]
  refine fol_end hc hk o1 (ch_led h hj hb) (r := r) (by rw [e, getD_at (by omega)]; exact r1) (by rw [r4 (Nat.le_refl _)]; omega)
end Go.Proofs.Ytogpmpnojlepoaa
