/- A row of selectors that a collection cuts: GcLeak. -/
import Derived.Test.YtjecjlnkpbbanaaG4
namespace Go.Proofs.Ytjecjlnkpbbanaa
set_option linter.unusedVariables false
set_option linter.unusedSimpArgs false
def atO : Ob := newO 7 [] []
def Lc (os : List Ob) : Nat → Int → Prop
  | 0, a => a = 0 ∧ ob os 0 = some atO
  | i + 1, s => ∃ c a w, ob os s = some (newO 6 [c] [w]) ∧ (w = 0 ∨ w = 1) ∧ ob os c = some (newO 2 [a, a] []) ∧ Lc os i a
theorem Lc.more {os : List Ob} (o : Ob) : ∀ {i : Nat} {a : Int}, Lc os i a → Lc (os ++ [o]) i a
  | 0, a, ⟨h1, h2⟩ => ⟨h1, ob_more h2 o⟩
  | i + 1, s, ⟨c, a, w, h1, h2, h3, h4⟩ => ⟨c, a, w, ob_more h1 o, h2, ob_more h3 o, h4.more o⟩
theorem Lc.vd {os : List Ob} : ∀ {i : Nat} {a : Int}, Lc os i a → Vd os a
  | 0, a, ⟨h1, h2⟩ => ⟨atO, by rw [h1]; exact h2⟩
  | i + 1, s, ⟨c, a, w, h1, _⟩ => ⟨_, h1⟩
theorem Lc.zero {os : List Ob} : ∀ {i : Nat} {a : Int}, Lc os i a → ob os 0 = some atO
  | 0, a, ⟨_, h2⟩ => h2
  | i + 1, s, ⟨c, a, w, h1, h2, h3, h4⟩ => h4.zero
theorem Lc.short {os : List Ob} : ∀ (d i : Nat) (a : Int), Lc os i a → i ≤ d → shortO os d a = 0
  | d, 0, a, ⟨h1, h2⟩, _ => by
    subst h1
    exact short_plain h2 (by simp [atO, newO]) (by simp [atO, newO]) d
  | 0, i + 1, s, _, h => by omega
  | d + 1, i + 1, s, ⟨c, a, w, h1, h2, h3, h4⟩, h => by
    have ih := Lc.short d i a h4 (by omega)
    have hc : shortO os d c = c := short_plain h3 (by simp [newO]) (by simp [newO]) d
    rw [shortO_succ, endO_self h1 (by simp [newO]), if_pos (by rw [hdo_tag h1]; rfl), ptrsOf_ob h1, newO_ptrs, numsOf_ob h1, newO_nums]
    show (if (hdo os (shortO os d c)).t = 2 then shortO os d ((ptrsOf os (shortO os d c)).getD w.toNat 0) else s) = 0
    rw [hc, if_pos (by rw [hdo_tag h3]; rfl), ptrsOf_ob h3, newO_ptrs, ← ih]
    rcases h2 with rfl | rfl <;> rfl
theorem one_zero {l : List Int} (h : ∀ x ∈ l, x ∈ [(0 : Int)]) (hn : l.Nodup) (h0 : (0 : Int) ∈ l) : l = [0] := by
  rcases l with _ | ⟨x, l⟩
  · cases h0
  · have hx : x = 0 := List.mem_singleton.1 (h x (by simp))
    subst hx
    rcases l with _ | ⟨y, l⟩
    · rfl
    · have hy : y = 0 := List.mem_singleton.1 (h y (by simp))
      subst hy
      simp at hn
theorem Lc.gc {os : List Ob} (hc : Closed os) (hk : Oks os) {d i : Nat} {a : Int} (h : Lc os i a) (hi : i ≤ d) :
    total (gcO os d [a]) = 2 ∧ ob (gcO os d [a]) 0 = some atO ∧ ph os d [a] (shortO os d a) = 0 := by
  have h0 := h.zero
  have hr : ∀ r ∈ [a], Vd os r := fun r hr => by rw [List.mem_singleton.1 hr]; exact h.vd
  have hs := Lc.short d i a h hi
  have hg := allD_good hc hk d hr
  have h1 : ∀ x ∈ allD os d [a], x ∈ [(0 : Int)] := by
    refine allD_all (S := fun x => x ∈ [(0 : Int)]) (fun x hx p hp => ?_) (fun r hr => ?_)
    · rw [List.mem_singleton.1 hx, ptrsOf_ob h0] at hp
      have : atO.ptrs = [] := newO_ptrs _ _ _
      rw [this] at hp; cases hp
    · rw [List.mem_singleton.1 hr, hs]; simp
  have h2 : (0 : Int) ∈ allD os d [a] := by have := allD_roots (os := os) d a (rs := [a]) (by simp); rw [hs] at this; exact this
  have hD := one_zero h1 hg.1 h2
  have hp : ph os d [a] 0 = 0 := by unfold ph; rw [hD]; simp [pos]
  refine ⟨?_, ?_, by rw [hs]; exact hp⟩
  · rw [gcO_total, hD]
    simp only [sm]; unfold sz; rw [ptrsOf_ob h0, numsOf_ob h0]; rfl
  · have h3 := gcO_ob hc hk d hr h2
    rw [hp, hdo_tag h0, ptrsOf_ob h0, numsOf_ob h0] at h3
    exact h3
theorem mod_next {i e : Nat} (h : i % (e + 1) ≠ e) : (i + 1) % (e + 1) = i % (e + 1) + 1 := by
  have h1 := Nat.mod_lt i (show 0 < e + 1 by omega)
  have h2 := Nat.div_add_mod i (e + 1)
  have h3 : i + 1 = (e + 1) * (i / (e + 1)) + (i % (e + 1) + 1) := by omega
  rw [h3, Nat.mul_add_mod, Nat.mod_eq_of_lt (by omega)]
/-- What is known before a round. -/
def LkS (e : Nat) (i : Nat) (os : List Ob) (a : Int) : Prop := Vd os a ∧ total os ≤ 8 + 6 * i ∧ (e ≤ 17 → ∃ j, Lc os j a ∧ j ≤ 1 + i % (e + 1))
theorem LkS.start (e : Nat) : LkS e 0 [atO, newO 2 [0, 0] [], newO 6 [2] [1]] 5 := by
  have h : Lc [atO, newO 2 [0, 0] [], newO 6 [2] [1]] 1 5 := ⟨2, 0, 1, by kernel_rfl, .inr rfl, by kernel_rfl, rfl, by kernel_rfl⟩
  exact ⟨h.vd, by decide, fun _ => ⟨1, h, by omega⟩⟩
theorem LkS.step {e i : Nat} {os : List Ob} {a w : Int} (h : LkS e i os a) (hw : w = 0 ∨ w = 1) :
    Vd ((os ++ [newO 2 [a, a] []]) ++ [newO 6 [(total os : Nat)] [w]]) (total (os ++ [newO 2 [a, a] []]) : Nat) ∧
    total ((os ++ [newO 2 [a, a] []]) ++ [newO 6 [(total os : Nat)] [w]]) ≤ 8 + 6 * (i + 1) ∧
    (e ≤ 17 → ∃ j, Lc ((os ++ [newO 2 [a, a] []]) ++ [newO 6 [(total os : Nat)] [w]]) (j + 1) (total (os ++ [newO 2 [a, a] []]) : Nat) ∧ j ≤ 1 + i % (e + 1)) := by
  refine ⟨⟨_, ob_last _ _⟩, ?_, fun he => ?_⟩
  · rw [total_append, total_append]
    simp only [total]
    have e1 : (newO 6 [((total os : Nat) : Int)] [w]).size = 3 := rfl
    have e2 : (newO 2 [a, a] []).size = 3 := rfl
    have := h.2.1
    omega
  · obtain ⟨j, hj, hl⟩ := h.2.2 he
    exact ⟨j, ⟨(total os : Nat), a, w, ob_last _ _, hw, ob_more (ob_last _ _) _, (hj.more _).more _⟩, hl⟩
theorem LkS.next {e i : Nat} {os : List Ob} {a : Int} (h : Vd os a) (ht : total os ≤ 8 + 6 * (i + 1)) (hl : e ≤ 17 → ∃ j, Lc os (j + 1) a ∧ j ≤ 1 + i % (e + 1)) (hn : i % (e + 1) ≠ e) : LkS e (i + 1) os a := by
  refine ⟨h, ht, fun he => ?_⟩
  obtain ⟨j, h1, h2⟩ := hl he
  exact ⟨j + 1, h1, by rw [mod_next hn]; omega⟩
theorem LkS.gc {e i : Nat} {os : List Ob} {a : Int} (hc : Closed os) (hk : Oks os) (h : Vd os a) (ht : total os ≤ 8 + 6 * (i + 1)) (hl : e ≤ 17 → ∃ j, Lc os (j + 1) a ∧ j ≤ 1 + i % (e + 1)) :
    LkS e (i + 1) (gcO os 20 [a]) (ph os 20 [a] (shortO os 20 a)) ∧ (e ≤ 17 → total (gcO os 20 [a]) = 2) := by
  have hr : ∀ r ∈ [a], Vd os r := fun r hr => by rw [List.mem_singleton.1 hr]; exact h
  have hless := gcO_less hc hk 20 hr
  have key : e ≤ 17 → total (gcO os 20 [a]) = 2 ∧ ob (gcO os 20 [a]) 0 = some atO ∧ ph os 20 [a] (shortO os 20 a) = 0 := fun he => by
    obtain ⟨j, h1, h2⟩ := hl he
    have := Nat.mod_lt i (show 0 < e + 1 by omega)
    exact h1.gc hc hk (by omega)
  refine ⟨⟨⟨_, gcO_ob hc hk 20 hr (allD_roots 20 a (by simp))⟩, by omega, fun he => ⟨0, ⟨(key he).2.2, (key he).2.1⟩, by omega⟩⟩, fun he => (key he).1⟩
end Go.Proofs.Ytjecjlnkpbbanaa
