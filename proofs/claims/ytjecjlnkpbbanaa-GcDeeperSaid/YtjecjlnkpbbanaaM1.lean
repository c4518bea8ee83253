/- Plain mathematics of heaps: objects one behind the other, and the words that they are. -/
import Derived.Test.YtjecjlnkpbbanaaA
namespace Go.Proofs.Ytjecjlnkpbbanaa
set_option linter.unusedVariables false
set_option linter.unusedSimpArgs false
/-- What an object of a tag may have. -/
def Shp (t : Nat) (ps ns : List Int) : Prop := (t = 5 → ps.length = 1) ∧ (t = 2 → ps.length = 2) ∧ (t = 6 → ps.length = 1 ∧ (ns = [0] ∨ ns = [1])) ∧ (t = 5 ∨ t = 2 → ns = [])
/-- An object: its tag, how many pointers and numbers it has, what lies behind its head. -/
structure Ob where
  tag : Nat
  np : Nat
  nn : Nat
  body : List Int
namespace Ob
def size (o : Ob) : Nat := o.body.length + 1
def ptrs (o : Ob) : List Int := o.body.take o.np
def nums (o : Ob) : List Int := (o.body.drop o.np).take o.nn
structure Ok (o : Ob) : Prop where
  t1 : 1 ≤ o.tag
  t2 : o.tag ≤ 7
  p : o.np ≤ 60
  n : o.nn ≤ 60
  pn : o.np + o.nn ≤ o.body.length
  b1 : 1 ≤ o.body.length
  b2 : o.body.length ≤ 120
  shp : Shp o.tag o.ptrs o.nums
theorem Ok.ind {o : Ob} (h : o.Ok) (e : o.tag = 5) : o.np = 1 := by
  have h1 := h.shp.1 e
  have h2 := h.pn
  simp only [ptrs, List.length_take] at h1
  omega
def head (o : Ob) : Wd := ⟨o.tag, o.np, o.nn, o.size, 0⟩
def wds (o : Ob) : List Wd := o.head :: o.body.map (fun v => ⟨0, 0, 0, 0, v⟩)
end Ob
def total : List Ob → Nat
  | [] => 0
  | o :: l => o.size + total l
def adr (os : List Ob) (i : Nat) : Nat := total (os.take i)
def loc : List Ob → Int → Option Nat
  | [], _ => none
  | o :: l, a => if a = 0 then some 0 else (loc l (a - o.size)).map (· + 1)
def wds (os : List Ob) : List Wd := os.flatMap Ob.wds
def Oks (os : List Ob) : Prop := ∀ o ∈ os, o.Ok
theorem Ob.wds_length (o : Ob) : o.wds.length = o.size := by simp [Ob.wds, Ob.size]
theorem wds_cons (o : Ob) (l : List Ob) : wds (o :: l) = o.wds ++ wds l := rfl
theorem wds_append (l m : List Ob) : wds (l ++ m) = wds l ++ wds m := by simp [wds]
theorem wds_length : ∀ os : List Ob, (wds os).length = total os
  | [] => rfl
  | o :: l => by rw [wds_cons, List.length_append, wds_length l, o.wds_length]; rfl
theorem total_append : ∀ l m : List Ob, total (l ++ m) = total l + total m
  | [], m => by simp [total]
  | o :: l, m => by simp only [List.cons_append, total, total_append l m]; omega
theorem adr_succ (o : Ob) (l : List Ob) (i : Nat) : adr (o :: l) (i + 1) = o.size + adr l i := rfl
theorem adr_zero (l : List Ob) : adr l 0 = 0 := rfl
theorem adr_all (l : List Ob) : adr l l.length = total l := by unfold adr; rw [List.take_length]
theorem split_at {os : List Ob} {i : Nat} (h : i < os.length) : os = os.take i ++ os[i] :: os.drop (i + 1) := by
  rw [List.getElem_cons_drop h, List.take_append_drop]
theorem adr_next {os : List Ob} {i : Nat} (h : i < os.length) : adr os (i + 1) = adr os i + os[i].size := by
  unfold adr; rw [List.take_succ_eq_append_getElem h, total_append]; rfl
theorem adr_le {os : List Ob} {i : Nat} (h : i < os.length) : adr os i + os[i].size ≤ total os := by
  have := total_append (os.take i) (os.drop i)
  rw [List.take_append_drop] at this
  rw [← List.getElem_cons_drop h] at this
  simp only [total] at this
  unfold adr; omega
theorem adr_mono {os : List Ob} : ∀ {i j : Nat}, i ≤ j → j ≤ os.length → adr os i ≤ adr os j := by
  intro i j h hj
  induction j with
  | zero => have : i = 0 := by omega
            subst this; exact Nat.le_refl _
  | succ j ih =>
    by_cases e : i = j + 1
    · subst e; exact Nat.le_refl _
    · have := ih (by omega) (by omega)
      have := adr_next (show j < os.length by omega)
      omega
theorem adr_lt {os : List Ob} {i j : Nat} (h : i < j) (hj : j ≤ os.length) : adr os i < adr os j := by
  have h1 := adr_next (show i < os.length by omega)
  have h2 := adr_mono (os := os) (show i + 1 ≤ j by omega) hj
  unfold Ob.size at h1; omega
theorem loc_adr : ∀ (os : List Ob) (i : Nat), i < os.length → loc os (adr os i) = some i
  | [], i, h => by simp at h
  | o :: l, 0, h => by simp [loc, adr_zero]
  | o :: l, i + 1, h => by
    have h1 := loc_adr l i (by simpa using h)
    have e : ((adr (o :: l) (i + 1) : Nat) : Int) - o.size = (adr l i : Nat) := by rw [adr_succ]; omega
    have h0 : ¬ ((adr (o :: l) (i + 1) : Nat) : Int) = 0 := by rw [adr_succ]; unfold Ob.size; omega
    unfold loc
    rw [if_neg h0, e, h1]; rfl
theorem loc_some : ∀ {os : List Ob} {a : Int} {i : Nat}, loc os a = some i → i < os.length ∧ a = adr os i
  | [], a, i, h => by simp [loc] at h
  | o :: l, a, i, h => by
    unfold loc at h
    split at h
    · injection h with h; subst h; rename_i e; exact ⟨by simp, by rw [e]; rfl⟩
    · cases h1 : loc l (a - o.size) with
      | none => rw [h1] at h; simp at h
      | some k =>
        rw [h1] at h
        simp at h
        obtain ⟨h2, h3⟩ := loc_some h1
        subst h
        exact ⟨by simpa using h2, by rw [adr_succ]; omega⟩
theorem loc_iff {os : List Ob} {a : Int} {i : Nat} : loc os a = some i ↔ i < os.length ∧ a = adr os i :=
  ⟨loc_some, fun ⟨h, e⟩ => by rw [e]; exact loc_adr os i h⟩
theorem wds_at {os : List Ob} {i : Nat} (h : i < os.length) (k : Nat) (hk : k < os[i].size) : (wds os)[adr os i + k]? = os[i].wds[k]? := by
  have e : wds os = wds (os.take i) ++ (os[i].wds ++ wds (os.drop (i + 1))) := by
    conv => lhs; rw [split_at h]
    rw [wds_append, wds_cons]
  have hl : (wds (os.take i)).length = adr os i := wds_length _
  rw [e, List.getElem?_append_right (by omega), hl, show adr os i + k - adr os i = k by omega, List.getElem?_append_left (by rw [Ob.wds_length]; exact hk)]
theorem wds_head {os : List Ob} {i : Nat} (h : i < os.length) : (wds os)[adr os i]? = some os[i].head := by
  have := wds_at h 0 (by unfold Ob.size; omega)
  simpa [Ob.wds] using this
theorem wds_body {os : List Ob} {i : Nat} (h : i < os.length) (j : Nat) (hj : j < os[i].body.length) : (wds os)[adr os i + 1 + j]? = some ⟨0, 0, 0, 0, os[i].body[j]⟩ := by
  have := wds_at h (j + 1) (by unfold Ob.size; omega)
  rw [show adr os i + 1 + j = adr os i + (j + 1) by omega, this]
  simp [Ob.wds, hj]
theorem loc_none_word : ∀ {os : List Ob} {a : Nat}, loc os a = none → a < total os → ∃ v, (wds os)[a]? = some ⟨0, 0, 0, 0, v⟩
  | [], a, h, h2 => by simp [total] at h2
  | o :: l, a, h, h2 => by
    have hw : o.wds.length = o.size := o.wds_length
    have hs : o.size = o.body.length + 1 := rfl
    unfold loc at h
    split at h
    · simp at h
    · rename_i h0
      by_cases ha : a < o.size
      · rw [wds_cons, List.getElem?_append_left (by omega)]
        obtain ⟨j, rfl⟩ : ∃ j, a = j + 1 := ⟨a - 1, by omega⟩
        refine ⟨o.body[j]'(by omega), ?_⟩
        simp [Ob.wds, show j < o.body.length by omega]
      · have h3 : loc l ((a - o.size : Nat) : Int) = none := by
          rw [show ((a - o.size : Nat) : Int) = (a : Int) - o.size by omega]
          cases hh : loc l ((a : Int) - o.size) with
          | none => rfl
          | some k => rw [hh] at h; simp at h
        simp only [total] at h2
        obtain ⟨v, hv⟩ := loc_none_word h3 (by omega)
        exact ⟨v, by rw [wds_cons, List.getElem?_append_right (by omega), hw]; exact hv⟩
/-- The object at an address. -/
def ob (os : List Ob) (a : Int) : Option Ob := (loc os a).bind (os[·]?)
theorem ob_loc {os : List Ob} {a : Int} {i : Nat} (h : loc os a = some i) : ob os a = some (os[i]'(loc_some h).1) := by
  unfold ob; rw [h]; simp [(loc_some h).1]
theorem ob_none {os : List Ob} {a : Int} : ob os a = none ↔ loc os a = none := by
  cases h : loc os a with
  | none => simp [ob, h]
  | some i => rw [ob_loc h]; simp
theorem ob_some {os : List Ob} {a : Int} {o : Ob} (h : ob os a = some o) : ∃ i, ∃ hi : i < os.length, loc os a = some i ∧ a = adr os i ∧ o = os[i] := by
  cases h1 : loc os a with
  | none => simp [ob, h1] at h
  | some i =>
    rw [ob_loc h1] at h
    injection h with h
    exact ⟨i, (loc_some h1).1, rfl, (loc_some h1).2, h.symm⟩
theorem ob_mem {os : List Ob} {a : Int} {o : Ob} (h : ob os a = some o) : o ∈ os := by
  obtain ⟨i, hi, _, _, rfl⟩ := ob_some h; exact List.getElem_mem _
/-- The head at an address. -/
def hdo (os : List Ob) (a : Int) : Wd := match ob os a with | some o => o.head | none => ⟨0, 0, 0, 0, 0⟩
theorem hdAt_wds {l : List Wd} {os : List Ob} (e : l = wds os) (a : Int) : (if h : 0 ≤ a ∧ a < l.length then l[a.toNat]'(by omega) else (⟨0, 0, 0, 0, 0⟩ : Wd)).hd = (hdo os a).hd := by
  subst e
  unfold hdo
  cases h : ob os a with
  | some o =>
    obtain ⟨i, hi, h1, h2, rfl⟩ := ob_some h
    have h3 := adr_le hi
    have h4 := wds_head hi
    have h5 := wds_length os
    have h6 : os[i].size = os[i].body.length + 1 := rfl
    rw [dif_pos (by omega)]
    have e : a.toNat = adr os i := by omega
    rw [List.getElem?_eq_some_iff] at h4
    obtain ⟨h7, h8⟩ := h4
    simp only [e, h8]
  | none =>
    have h1 := ob_none.1 h
    have h5 := wds_length os
    by_cases hr : 0 ≤ a ∧ a < (wds os).length
    · rw [dif_pos hr]
      have h2 : loc os (a.toNat : Nat) = none := by rw [show ((a.toNat : Nat) : Int) = a by omega]; exact h1
      obtain ⟨v, hv⟩ := loc_none_word h2 (by omega)
      rw [List.getElem?_eq_some_iff] at hv
      obtain ⟨h7, h8⟩ := hv
      rw [h8]; rfl
    · rw [dif_neg hr]
end Go.Proofs.Ytjecjlnkpbbanaa
