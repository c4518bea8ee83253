/- Selectors in a row. -/
import Derived.Test.YtkekekdkfjjifaaZG
namespace Go.Proofs.Ytkekekdkfjjifaa
set_option linter.unusedVariables false
set_option linter.unusedSimpArgs false
def lnk (pr : Bool) (a : Int) : Ob := if pr then newO 2 [a, a] [] else newO 4 [a] [3]
def Ch (pr : Bool) (os : List Ob) : Nat → Int → Prop
  | 0, a => a = 0 ∧ ob os 0 = some (newO 1 [] [77])
  | i + 1, s => ∃ c a w, ob os s = some (newO 6 [c] [w]) ∧ (w = 0 ∨ w = 1) ∧ ob os c = some (lnk pr a) ∧ Ch pr os i a
theorem ob_more {os : List Ob} {a : Int} {q : Ob} (h : ob os a = some q) (o : Ob) : ob (os ++ [o]) a = some q := by
  have := (ob_pos h).2
  rw [ob_snoc, if_neg (by omega)]; exact h
theorem Ch.more {pr : Bool} {os : List Ob} (o : Ob) : ∀ {i : Nat} {a : Int}, Ch pr os i a → Ch pr (os ++ [o]) i a
  | 0, a, ⟨h1, h2⟩ => ⟨h1, ob_more h2 o⟩
  | i + 1, s, ⟨c, a, w, h1, h2, h3, h4⟩ => ⟨c, a, w, ob_more h1 o, h2, ob_more h3 o, h4.more o⟩
theorem Ch.vd {pr : Bool} {os : List Ob} : ∀ {i : Nat} {a : Int}, Ch pr os i a → Vd os a
  | 0, a, ⟨h1, h2⟩ => ⟨newO 1 [] [77], by rw [h1]; exact h2⟩
  | i + 1, s, ⟨c, a, w, h1, _⟩ => ⟨_, h1⟩
theorem shortO_succ (os : List Ob) (d : Nat) (a : Int) : shortO os (d + 1) a = (if (hdo os (endO os a)).t = 6 then
      if (hdo os (shortO os d ((ptrsOf os (endO os a)).headD 0))).t = 2 then
        shortO os d ((ptrsOf os (shortO os d ((ptrsOf os (endO os a)).headD 0))).getD ((numsOf os (endO os a)).headD 0).toNat 0)
      else endO os a
    else endO os a) := rfl
theorem short_plain {os : List Ob} {a : Int} {q : Ob} (h : ob os a = some q) (h5 : q.tag ≠ 5) (h6 : q.tag ≠ 6) : ∀ d, shortO os d a = a
  | 0 => endO_self h h5
  | d + 1 => by
    unfold shortO
    rw [endO_self h h5, if_neg (by rw [hdo_tag h]; exact h6)]
theorem Ch.short {os : List Ob} : ∀ (d i : Nat) (a : Int), Ch true os i a → (i ≤ d → shortO os d a = 0) ∧ (d < i → (hdo os (shortO os d a)).t = 6)
  | d, 0, a, ⟨h1, h2⟩ => by
    subst h1
    exact ⟨fun _ => short_plain h2 (by simp [newO]) (by simp [newO]) d, fun h => by omega⟩
  | 0, i + 1, s, ⟨c, a, w, h1, h2, h3, h4⟩ => by
    refine ⟨fun h => by omega, fun _ => ?_⟩
    show (hdo os (endO os s)).t = 6
    rw [endO_self h1 (by simp [newO]), hdo_tag h1]; rfl
  | d + 1, i + 1, s, ⟨c, a, w, h1, h2, h3, h4⟩ => by
    have ih := Ch.short d i a h4
    have hc : shortO os d c = c := short_plain h3 (by simp [lnk, newO]) (by simp [lnk, newO]) d
    have e : shortO os (d + 1) s = shortO os d a := by
      rw [shortO_succ, endO_self h1 (by simp [newO]), if_pos (by rw [hdo_tag h1]; rfl), ptrsOf_ob h1, newO_ptrs, numsOf_ob h1, newO_nums]
      show (if (hdo os (shortO os d c)).t = 2 then shortO os d ((ptrsOf os (shortO os d c)).getD w.toNat 0) else s) = shortO os d a
      rw [hc, if_pos (by rw [hdo_tag h3]; rfl), ptrsOf_ob h3]
      have : (lnk true a).ptrs = [a, a] := newO_ptrs _ _ _
      rw [this]
      rcases h2 with rfl | rfl <;> rfl
    rw [e]
    exact ⟨fun h => ih.1 (by omega), fun h => ih.2 (by omega)⟩
theorem Ch.stay {os : List Ob} {i : Nat} {s : Int} (h : Ch false os (i + 1) s) (d : Nat) : (hdo os (shortO os d s)).t = 6 := by
  obtain ⟨c, a, w, h1, h2, h3, h4⟩ := h
  have e : shortO os d s = s := by
    cases d with
    | zero => exact endO_self h1 (by simp [newO])
    | succ d =>
      have hc : shortO os d c = c := short_plain h3 (by simp [lnk, newO]) (by simp [lnk, newO]) d
      rw [shortO_succ, endO_self h1 (by simp [newO]), if_pos (by rw [hdo_tag h1]; rfl), ptrsOf_ob h1, newO_ptrs]
      show (if (hdo os (shortO os d c)).t = 2 then _ else s) = s
      rw [hc, if_neg (by rw [hdo_tag h3]; simp [lnk, newO])]
  rw [e, hdo_tag h1]; rfl
theorem gc_root_tag {os : List Ob} (hc : Closed os) (hk : Oks os) (dp : Nat) {a : Int} (ha : Vd os a) : (hdo (gcO os dp [a]) (ph os dp [a] (shortO os dp a))).t = (hdo os (shortO os dp a)).t :=
  (gc_ptrs hc hk dp (fun r hr => by rw [List.mem_singleton.1 hr]; exact ha) (allD_roots dp a (by simp))).2.2
theorem Ch.used {os : List Ob} (hc : Closed os) (hk : Oks os) {d i : Nat} {a : Int} (h : Ch true os i a) (hi : i ≤ d) (h0 : ob os 0 = some (newO 1 [] [77])) : total (gcO os d [a]) = 2 := by
  have hr : ∀ r ∈ [a], Vd os r := fun r hr => by rw [List.mem_singleton.1 hr]; exact h.vd
  have hs := (Ch.short d i a h).1 hi
  have hg := allD_good hc hk d hr
  have h1 : ∀ x ∈ allD os d [a], x ∈ [(0 : Int)] := by
    refine allD_all (S := fun x => x ∈ [(0 : Int)]) (fun x hx p hp => ?_) (fun r hr => ?_)
    · rw [List.mem_singleton.1 hx, ptrsOf_ob h0, newO_ptrs] at hp; cases hp
    · rw [List.mem_singleton.1 hr, hs]; simp
  have h2 : (0 : Int) ∈ allD os d [a] := by have := allD_roots (os := os) d a (rs := [a]) (by simp); rw [hs] at this; exact this
  have e1 := sm_le (sz os) [0] (allD os d [a]) hg.1 h1
  have e2 := sm_le (sz os) (allD os d [a]) [0] (by simp) (fun x hx => by rw [List.mem_singleton.1 hx]; exact h2)
  rw [gcO_total]
  have e3 : sm (sz os) [0] = 2 := by
    simp only [sm]; unfold sz; rw [ptrsOf_ob h0, numsOf_ob h0, newO_ptrs, newO_nums]; rfl
  omega
theorem Ch.zero {pr : Bool} {os : List Ob} : ∀ {i : Nat} {a : Int}, Ch pr os i a → ob os 0 = some (newO 1 [] [77])
  | 0, a, ⟨_, h2⟩ => h2
  | i + 1, s, ⟨c, a, w, h1, h2, h3, h4⟩ => h4.zero
theorem bey_vd {os : List Ob} {a : Int} (h : Vd os a) : bey os a = false := by
  obtain ⟨q, hq⟩ := h
  unfold bey; rw [hq]; simp
theorem ob_last (os : List Ob) (o : Ob) : ob (os ++ [o]) (total os : Nat) = some o := by rw [ob_snoc, if_pos rfl]
end Go.Proofs.Ytkekekdkfjjifaa
