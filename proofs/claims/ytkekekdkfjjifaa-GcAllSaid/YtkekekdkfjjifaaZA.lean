/- Contracts of small functions: a word's head. -/
import Derived.Test.YtkekekdkfjjifaaProg
import Derived.WalkKit
import Derived.Lib.Hide
import Derived.Below
import Derived.PlainAid
import Derived.OwnWalk
import Derived.Laws.AppendOwn
import Derived.Laws.MakeOwn
import Derived.Laws.Rows
import Derived.Deep.RegionHeld
import Derived.Deep.RegionHeld3
import Derived.Deep.MidRow
import Derived.Deep.Draws
import Derived.Deep.Cut
import Derived.ScopeJumps
import Derived.Deep.LoopGhost
import Derived.Deep.WholeRow
import Derived.Deep.AppendSrc
namespace Go.Proofs.Ytkekekdkfjjifaa
open Go.RowKit
set_option linter.unusedVariables false
set_option linter.unusedSimpArgs false
/-- What is answered; no block that was there has turned. -/
def RetV (v : Value) (w : World) (e : Ending) (w' : World) : Prop := e = .returned v ∧ Below w.heap.size w w'
theorem alloc_at (w : World) (o : Obj) : (w.alloc o).heap[w.heap.size]? = some o := heap_alloc_new w o
theorem ret_int {k : IntKind} {a b : Int} (h : a = b) : Ending.returned (.int k a) = .returned (.int k b) := by rw [h]
/-- A word: its head's four bytes, its value. -/
structure Wd where
  t : Nat
  p : Nat
  n : Nat
  s : Nat
  v : Int
def Wd.low (x : Wd) : Prop := x.t ≤ 255 ∧ x.p ≤ 255 ∧ x.n ≤ 255 ∧ x.s ≤ 255
def Wd.hd (x : Wd) : Array Value := #[.int .u8 x.t, .int .u8 x.p, .int .u8 x.n, .int .u8 x.s]
def Wd.cells (x : Wd) : List Value := [.int .u8 x.t, .int .u8 x.p, .int .u8 x.n, .int .u8 x.s, .int .i64 x.v]
theorem tag_any (t p n s : Nat) (h1 : t ≤ 255) (w : World) : Calls Try.prog 47 #[.agg #[.int .u8 t, .int .u8 p, .int .u8 n, .int .u8 s]] w (RetV (.int .i64 t) w) := by
  go_enter Try.func47, Try.ntmps47
  go_wp2
  go_ret
  exact ⟨ret_int (by omega), (Below.refl _ _).alloc (Nat.le_refl _) _⟩
theorem is_any (t p n s : Nat) (w : World) : Calls Try.prog 51 #[.agg #[.int .u8 t, .int .u8 p, .int .u8 n, .int .u8 s]] w (RetV (.bool (decide (0 < s))) w) := by
  go_enter Try.func51, Try.ntmps51
  go_wp2
  go_ret
  exact ⟨by simp, (Below.refl _ _).alloc (Nat.le_refl _) _⟩
theorem size_any (t p n s : Nat) (h1 : s ≤ 255) (w : World) : Calls Try.prog 45 #[.agg #[.int .u8 t, .int .u8 p, .int .u8 n, .int .u8 s]] w (RetV (.int .i64 s) w) := by
  go_enter Try.func45, Try.ntmps45
  go_wp2
  go_ret
  exact ⟨ret_int (by omega), (Below.refl _ _).alloc (Nat.le_refl _) _⟩
theorem ptrs_any (t p n s : Nat) (h1 : p ≤ 255) (w : World) : Calls Try.prog 49 #[.agg #[.int .u8 t, .int .u8 p, .int .u8 n, .int .u8 s]] w (RetV (.int .i64 p) w) := by
  go_enter Try.func49, Try.ntmps49
  go_wp2
  go_ret
  exact ⟨ret_int (by omega), (Below.refl _ _).alloc (Nat.le_refl _) _⟩
theorem nums_any (t p n s : Nat) (h1 : n ≤ 255) (w : World) : Calls Try.prog 50 #[.agg #[.int .u8 t, .int .u8 p, .int .u8 n, .int .u8 s]] w (RetV (.int .i64 n) w) := by
  go_enter Try.func50, Try.ntmps50
  go_wp2
  go_ret
  exact ⟨ret_int (by omega), (Below.refl _ _).alloc (Nat.le_refl _) _⟩
theorem info55 : (Try.prog.info? 77).map (·.size) = some 4 := by kernel_rfl
theorem headOf_any (t p n : Nat) (h1 : t ≤ 255) (h3 : p ≤ 100) (h5 : n ≤ 100) (w : World) : Calls Try.prog 55 #[.int .i64 t, .int .i64 p, .int .i64 n] w
    (RetV (.agg #[.int .u8 t, .int .u8 p, .int .u8 n, .int .u8 ((max 2 (1 + p + n) : Nat) : Int)]) w) := by
  by_cases hc : 2 < 1 + p + n
  · have hm : max 2 (1 + p + n) = 1 + p + n := by omega
    rw [hm]
    have hc2 : (2 : Int) < 1 + (p : Int) + (n : Int) := by omega
    clear hm hc
    go_enter Try.func55, Try.ntmps55
    go_wp2
    refine bodyPost_ret (results_cell_row rfl _ _ w.heap.size 77 #[.int .u8 t, .int .u8 p, .int .u8 n, .int .u8 (1 + p + n)] (0, 0) _ rfl (alloc_at _ _) Try.underlying77 rfl info55) rfl ?_
    exact ⟨by push_cast; rfl, (Below.refl _ _).alloc (Nat.le_refl _) _⟩
  · have hm : max 2 (1 + p + n) = 2 := by omega
    rw [hm]
    have hc2 : ¬ (2 : Int) < 1 + (p : Int) + (n : Int) := by omega
    clear hm hc
    go_enter Try.func55, Try.ntmps55
    go_wp2
    refine bodyPost_ret (results_cell_row rfl _ _ w.heap.size 77 #[.int .u8 t, .int .u8 p, .int .u8 n, .int .u8 2] (0, 0) _ rfl (alloc_at _ _) Try.underlying77 rfl info55) rfl ?_
    exact ⟨rfl, (Below.refl _ _).alloc (Nat.le_refl _) _⟩
theorem new_any (n : Int) (h1 : 0 ≤ n) (h2 : n ≤ 1000000) (w : World) : Calls Try.prog 27 #[.int .i64 n] w
    fun e w' => e = .returned (.pointer (some ⟨w.heap.size, 0, none⟩)) ∧ w' = w.alloc (.cells #[.slice none 0 0, .int .i64 n] 75) := by
  go_enter Try.func27, Try.ntmps27
  go_wp2
  go_ret
  exact ⟨rfl, rfl⟩
theorem within_any (a n : Int) (w : World) (h1 : -9223372036854775808 ≤ a) (h2 : a ≤ 9223372036854775807) (h3 : 1 ≤ n) (h4 : n ≤ 4000000000) :
    Calls Try.prog 57 #[.int .i64 a, .int .i64 n] w fun e w' => e = .returned (.int .i64 (a % n)) ∧ w = w' := by
  have hr := Int.emod_nonneg a (show n ≠ 0 by omega)
  have hl := Int.emod_lt_of_pos a (show 0 < n by omega)
  by_cases h : 0 ≤ a
  · have ht := Int.tmod_eq_emod_of_nonneg (b := n) h
    go_enter Try.func57, Try.ntmps57
    go_wp2
    go_ret
    exact ⟨rfl, rfl⟩
  · by_cases hd : a % n = 0
    · have ht : a.tmod n = 0 := by rw [Int.tmod_eq_emod, if_pos (Or.inr (Int.dvd_of_emod_eq_zero hd))]; omega
      go_enter Try.func57, Try.ntmps57
      go_wp2
      go_ret
      exact ⟨ret_int (by omega), rfl⟩
    · have ht : a.tmod n = a % n - n := by
        rw [Int.tmod_eq_emod, if_neg]
        · omega
        · rintro (h' | h')
          · exact h h'
          · exact hd (Int.emod_eq_zero_of_dvd h')
      have ht2 : a % n - n < 0 := by omega
      clear hd
      go_enter Try.func57, Try.ntmps57
      go_wp2
      go_ret
      exact ⟨ret_int (by omega), rfl⟩
end Go.Proofs.Ytkekekdkfjjifaa
namespace Go.Proofs.Ytkekekdkfjjifaa
set_option linter.unusedVariables false
set_option linter.unusedSimpArgs false
/-- What an object of a tag may have. -/
def Shp (t : Nat) (ps ns : List Int) : Prop := (t = 5 → ps.length = 1) ∧ (t = 2 → ps.length = 2) ∧ (t = 6 → ps.length = 1 ∧ (ns = [0] ∨ ns = [1])) ∧ (t = 5 ∨ t = 2 → ns = [])
/-- An object: its tag, how many pointers and numbers it has, what lies behind its head. -/
structure Ob where
  tag : Nat
  np : Nat
  nn : Nat
  body : List Int
namespace Ob
def size (o : Ob) : Nat := o.body.length + 1
def ptrs (o : Ob) : List Int := o.body.take o.np
def nums (o : Ob) : List Int := (o.body.drop o.np).take o.nn
structure Ok (o : Ob) : Prop where
  t1 : 1 ≤ o.tag
  t2 : o.tag ≤ 7
  p : o.np ≤ 60
  n : o.nn ≤ 60
  pn : o.np + o.nn ≤ o.body.length
  b1 : 1 ≤ o.body.length
  b2 : o.body.length ≤ 120
  shp : Shp o.tag o.ptrs o.nums
theorem Ok.ind {o : Ob} (h : o.Ok) (e : o.tag = 5) : o.np = 1 := by
  have h1 := h.shp.1 e
  have h2 := h.pn
  simp only [ptrs, List.length_take] at h1
  omega
def head (o : Ob) : Wd := ⟨o.tag, o.np, o.nn, o.size, 0⟩
def wds (o : Ob) : List Wd := o.head :: o.body.map (fun v => ⟨0, 0, 0, 0, v⟩)
end Ob
def total : List Ob → Nat
  | [] => 0
  | o :: l => o.size + total l
def adr (os : List Ob) (i : Nat) : Nat := total (os.take i)
def loc : List Ob → Int → Option Nat
  | [], _ => none
  | o :: l, a => if a = 0 then some 0 else (loc l (a - o.size)).map (· + 1)
def wds (os : List Ob) : List Wd := os.flatMap Ob.wds
def Oks (os : List Ob) : Prop := ∀ o ∈ os, o.Ok
theorem Ob.wds_length (o : Ob) : o.wds.length = o.size := by simp [Ob.wds, Ob.size]
theorem wds_cons (o : Ob) (l : List Ob) : wds (o :: l) = o.wds ++ wds l := rfl
theorem wds_append (l m : List Ob) : wds (l ++ m) = wds l ++ wds m := by simp [wds]
theorem wds_length : ∀ os : List Ob, (wds os).length = total os
  | [] => rfl
  | o :: l => by rw [wds_cons, List.length_append, wds_length l, o.wds_length]; rfl
theorem total_append : ∀ l m : List Ob, total (l ++ m) = total l + total m
  | [], m => by simp [total]
  | o :: l, m => by simp only [List.cons_append, total, total_append l m]; omega
theorem adr_succ (o : Ob) (l : List Ob) (i : Nat) : adr (o :: l) (i + 1) = o.size + adr l i := rfl
theorem adr_zero (l : List Ob) : adr l 0 = 0 := rfl
theorem adr_all (l : List Ob) : adr l l.length = total l := by unfold adr; rw [List.take_length]
theorem split_at {os : List Ob} {i : Nat} (h : i < os.length) : os = os.take i ++ os[i] :: os.drop (i + 1) := by
  rw [List.getElem_cons_drop h, List.take_append_drop]
theorem adr_next {os : List Ob} {i : Nat} (h : i < os.length) : adr os (i + 1) = adr os i + os[i].size := by
  unfold adr; rw [List.take_succ_eq_append_getElem h, total_append]; rfl
theorem adr_le {os : List Ob} {i : Nat} (h : i < os.length) : adr os i + os[i].size ≤ total os := by
  have := total_append (os.take i) (os.drop i)
  rw [List.take_append_drop] at this
  rw [← List.getElem_cons_drop h] at this
  simp only [total] at this
  unfold adr; omega
theorem adr_mono {os : List Ob} : ∀ {i j : Nat}, i ≤ j → j ≤ os.length → adr os i ≤ adr os j := by
  intro i j h hj
  induction j with
  | zero => have : i = 0 := by omega
            subst this; exact Nat.le_refl _
  | succ j ih =>
    by_cases e : i = j + 1
    · subst e; exact Nat.le_refl _
    · have := ih (by omega) (by omega)
      have := adr_next (show j < os.length by omega)
      omega
theorem adr_lt {os : List Ob} {i j : Nat} (h : i < j) (hj : j ≤ os.length) : adr os i < adr os j := by
  have h1 := adr_next (show i < os.length by omega)
  have h2 := adr_mono (os := os) (show i + 1 ≤ j by omega) hj
  unfold Ob.size at h1; omega
theorem loc_adr : ∀ (os : List Ob) (i : Nat), i < os.length → loc os (adr os i) = some i
  | [], i, h => by simp at h
  | o :: l, 0, h => by simp [loc, adr_zero]
  | o :: l, i + 1, h => by
    have h1 := loc_adr l i (by simpa using h)
    have e : ((adr (o :: l) (i + 1) : Nat) : Int) - o.size = (adr l i : Nat) := by rw [adr_succ]; omega
    have h0 : ¬ ((adr (o :: l) (i + 1) : Nat) : Int) = 0 := by rw [adr_succ]; unfold Ob.size; omega
    unfold loc
    rw [if_neg h0, e, h1]; rfl
theorem loc_some : ∀ {os : List Ob} {a : Int} {i : Nat}, loc os a = some i → i < os.length ∧ a = adr os i
  | [], a, i, h => by simp [loc] at h
  | o :: l, a, i, h => by
    unfold loc at h
    split at h
    · injection h with h; subst h; rename_i e; exact ⟨by simp, by rw [e]; rfl⟩
    · cases h1 : loc l (a - o.size) with
      | none => rw [h1] at h; simp at h
      | some k =>
        rw [h1] at h
        simp at h
        obtain ⟨h2, h3⟩ := loc_some h1
        subst h
        exact ⟨by simpa using h2, by rw [adr_succ]; omega⟩
theorem loc_iff {os : List Ob} {a : Int} {i : Nat} : loc os a = some i ↔ i < os.length ∧ a = adr os i :=
  ⟨loc_some, fun ⟨h, e⟩ => by rw [e]; exact loc_adr os i h⟩
theorem wds_at {os : List Ob} {i : Nat} (h : i < os.length) (k : Nat) (hk : k < os[i].size) : (wds os)[adr os i + k]? = os[i].wds[k]? := by
  have e : wds os = wds (os.take i) ++ (os[i].wds ++ wds (os.drop (i + 1))) := by
    conv => lhs; rw [split_at h]
    rw [wds_append, wds_cons]
  have hl : (wds (os.take i)).length = adr os i := wds_length _
  rw [e, List.getElem?_append_right (by omega), hl, show adr os i + k - adr os i = k by omega, List.getElem?_append_left (by rw [Ob.wds_length]; exact hk)]
theorem wds_head {os : List Ob} {i : Nat} (h : i < os.length) : (wds os)[adr os i]? = some os[i].head := by
  have := wds_at h 0 (by unfold Ob.size; omega)
  simpa [Ob.wds] using this
theorem wds_body {os : List Ob} {i : Nat} (h : i < os.length) (j : Nat) (hj : j < os[i].body.length) : (wds os)[adr os i + 1 + j]? = some ⟨0, 0, 0, 0, os[i].body[j]⟩ := by
  have := wds_at h (j + 1) (by unfold Ob.size; omega)
  rw [show adr os i + 1 + j = adr os i + (j + 1) by omega, this]
  simp [Ob.wds, hj]
theorem loc_none_word : ∀ {os : List Ob} {a : Nat}, loc os a = none → a < total os → ∃ v, (wds os)[a]? = some ⟨0, 0, 0, 0, v⟩
  | [], a, h, h2 => by simp [total] at h2
  | o :: l, a, h, h2 => by
    have hw : o.wds.length = o.size := o.wds_length
    have hs : o.size = o.body.length + 1 := rfl
    unfold loc at h
    split at h
    · simp at h
    · rename_i h0
      by_cases ha : a < o.size
      · rw [wds_cons, List.getElem?_append_left (by omega)]
        obtain ⟨j, rfl⟩ : ∃ j, a = j + 1 := ⟨a - 1, by omega⟩
        refine ⟨o.body[j]'(by omega), ?_⟩
        simp [Ob.wds, show j < o.body.length by omega]
      · have h3 : loc l ((a - o.size : Nat) : Int) = none := by
          rw [show ((a - o.size : Nat) : Int) = (a : Int) - o.size by omega]
          cases hh : loc l ((a : Int) - o.size) with
          | none => rfl
          | some k => rw [hh] at h; simp at h
        simp only [total] at h2
        obtain ⟨v, hv⟩ := loc_none_word h3 (by omega)
        exact ⟨v, by rw [wds_cons, List.getElem?_append_right (by omega), hw]; exact hv⟩
/-- The object at an address. -/
def ob (os : List Ob) (a : Int) : Option Ob := (loc os a).bind (os[·]?)
theorem ob_loc {os : List Ob} {a : Int} {i : Nat} (h : loc os a = some i) : ob os a = some (os[i]'(loc_some h).1) := by
  unfold ob; rw [h]; simp [(loc_some h).1]
theorem ob_none {os : List Ob} {a : Int} : ob os a = none ↔ loc os a = none := by
  cases h : loc os a with
  | none => simp [ob, h]
  | some i => rw [ob_loc h]; simp
theorem ob_some {os : List Ob} {a : Int} {o : Ob} (h : ob os a = some o) : ∃ i, ∃ hi : i < os.length, loc os a = some i ∧ a = adr os i ∧ o = os[i] := by
  cases h1 : loc os a with
  | none => simp [ob, h1] at h
  | some i =>
    rw [ob_loc h1] at h
    injection h with h
    exact ⟨i, (loc_some h1).1, rfl, (loc_some h1).2, h.symm⟩
theorem ob_mem {os : List Ob} {a : Int} {o : Ob} (h : ob os a = some o) : o ∈ os := by
  obtain ⟨i, hi, _, _, rfl⟩ := ob_some h; exact List.getElem_mem _
/-- The head at an address. -/
def hdo (os : List Ob) (a : Int) : Wd := match ob os a with | some o => o.head | none => ⟨0, 0, 0, 0, 0⟩
theorem hdAt_wds {l : List Wd} {os : List Ob} (e : l = wds os) (a : Int) : (if h : 0 ≤ a ∧ a < l.length then l[a.toNat]'(by omega) else (⟨0, 0, 0, 0, 0⟩ : Wd)).hd = (hdo os a).hd := by
  subst e
  unfold hdo
  cases h : ob os a with
  | some o =>
    obtain ⟨i, hi, h1, h2, rfl⟩ := ob_some h
    have h3 := adr_le hi
    have h4 := wds_head hi
    have h5 := wds_length os
    have h6 : os[i].size = os[i].body.length + 1 := rfl
    rw [dif_pos (by omega)]
    have e : a.toNat = adr os i := by omega
    rw [List.getElem?_eq_some_iff] at h4
    obtain ⟨h7, h8⟩ := h4
    simp only [e, h8]
  | none =>
    have h1 := ob_none.1 h
    have h5 := wds_length os
    by_cases hr : 0 ≤ a ∧ a < (wds os).length
    · rw [dif_pos hr]
      have h2 : loc os (a.toNat : Nat) = none := by rw [show ((a.toNat : Nat) : Int) = a by omega]; exact h1
      obtain ⟨v, hv⟩ := loc_none_word h2 (by omega)
      rw [List.getElem?_eq_some_iff] at hv
      obtain ⟨h7, h8⟩ := hv
      rw [h8]; rfl
    · rw [dif_neg hr]
end Go.Proofs.Ytkekekdkfjjifaa
namespace Go.Proofs.Ytkekekdkfjjifaa
set_option linter.unusedVariables false
set_option linter.unusedSimpArgs false
theorem set_split {os : List Ob} {i : Nat} (h : i < os.length) (o : Ob) : os.set i o = os.take i ++ o :: os.drop (i + 1) := List.set_eq_take_append_cons_drop.trans (if_pos h)
theorem wds_setk {os : List Ob} {i : Nat} (h : i < os.length) (o : Ob) (k : Nat) (x : Wd) (hk : k < os[i].size) (e : o.wds = os[i].wds.set k x) : wds (os.set i o) = (wds os).set (adr os i + k) x := by
  have e1 : wds os = wds (os.take i) ++ (os[i].wds ++ wds (os.drop (i + 1))) := by
    conv => lhs; rw [split_at h]
    rw [wds_append, wds_cons]
  have hl : (wds (os.take i)).length = adr os i := wds_length _
  have hw := os[i].wds_length
  rw [set_split h, wds_append, wds_cons, e, e1, List.set_append_right _ _ (by omega), hl, show adr os i + k - adr os i = k by omega, List.set_append_left _ _ (by omega)]
theorem total_set {os : List Ob} {i : Nat} (h : i < os.length) {o : Ob} (e : o.body.length = os[i].body.length) : total (os.set i o) = total os := by
  rw [set_split h]
  conv => rhs; rw [split_at h]
  rw [total_append, total_append]
  simp only [total, Ob.size, e]
theorem loc_set : ∀ {os : List Ob} {i : Nat} (h : i < os.length) {o : Ob} (e : o.body.length = os[i].body.length) (a : Int), loc (os.set i o) a = loc os a
  | p :: l, 0, h, o, e, a => by
    have e2 : o.size = p.size := by unfold Ob.size; rw [e]; rfl
    simp only [List.set_cons_zero, loc, e2]
  | p :: l, i + 1, h, o, e, a => by
    simp only [List.set_cons_succ, loc]
    rw [loc_set (show i < l.length by simpa using h) (by simpa using e)]
theorem adr_set {os : List Ob} {i : Nat} (h : i < os.length) {o : Ob} (e : o.body.length = os[i].body.length) (j : Nat) (hj : j < os.length) : adr (os.set i o) j = adr os j := by
  have h1 := loc_set h e (adr os j)
  rw [loc_adr os j hj] at h1
  have := (loc_some h1).2
  omega
/-- A pointer is set. -/
def setO (o : Ob) (j : Nat) (v : Int) : Ob := { o with body := o.body.set j v }
/-- Written over. -/
def overO (o : Ob) (v : Int) : Ob := ⟨5, 1, 0, o.body.set 0 v⟩
theorem wds_setO {os : List Ob} {i : Nat} (h : i < os.length) (j : Nat) (v : Int) (hj : j < os[i].body.length) : wds (os.set i (setO os[i] j v)) = (wds os).set (adr os i + 1 + j) ⟨0, 0, 0, 0, v⟩ := by
  rw [wds_setk h (setO os[i] j v) (j + 1) ⟨0, 0, 0, 0, v⟩ (by unfold Ob.size; omega)]
  · congr 1; omega
  · simp [setO, Ob.wds, Ob.head, Ob.size, List.map_set]
theorem wds_overO {os : List Ob} {i : Nat} (h : i < os.length) (v : Int) (hj : 0 < os[i].body.length) :
    wds (os.set i (overO os[i] v)) = ((wds os).set (adr os i) ⟨5, 1, 0, os[i].size, 0⟩).set (adr os i + 1) ⟨0, 0, 0, 0, v⟩ := by
  have e1 := wds_setk h ⟨5, 1, 0, os[i].body⟩ 0 ⟨5, 1, 0, os[i].size, 0⟩ (by unfold Ob.size; omega) (by simp [Ob.wds, Ob.head, Ob.size])
  have h2 : i < (os.set i ⟨5, 1, 0, os[i].body⟩).length := by simpa using h
  have e3 : (os.set i ⟨5, 1, 0, os[i].body⟩)[i] = (⟨5, 1, 0, os[i].body⟩ : Ob) := by simp
  have e2 := wds_setO h2 0 v (by rw [e3]; exact hj)
  rw [e3, adr_set (o := ⟨5, 1, 0, os[i].body⟩) h rfl i h, e1] at e2
  rw [List.set_set] at e2
  simpa [setO, overO] using e2
theorem setO_ok {o : Ob} (h : o.Ok) (j : Nat) (v : Int) (hj : j < o.np) : (setO o j v).Ok := ⟨h.t1, h.t2, h.p, h.n, by simpa [setO] using h.pn, by simpa [setO] using h.b1, by simpa [setO] using h.b2, by
  have e1 : (setO o j v).ptrs = o.ptrs.set j v := by simp only [setO, Ob.ptrs]; rw [List.take_set]
  have e2 : (setO o j v).nums = o.nums := by simp only [setO, Ob.nums]; rw [List.drop_set_of_lt hj]
  rw [e1, e2]
  exact ⟨fun e => by rw [List.length_set]; exact h.shp.1 e, fun e => by rw [List.length_set]; exact h.shp.2.1 e, fun e => by rw [List.length_set]; exact h.shp.2.2.1 e, h.shp.2.2.2⟩⟩
theorem overO_ok {o : Ob} (h : o.Ok) (v : Int) : (overO o v).Ok := ⟨by simp [overO], by simp [overO], by simp [overO], by simp [overO], by simpa [overO] using h.b1, by simpa [overO] using h.b1, by simpa [overO] using h.b2, ⟨fun _ => by have := h.b1; simp [overO, Ob.ptrs]; omega, fun e => by simp [overO] at e, fun e => by simp [overO] at e, fun _ => by simp [overO, Ob.nums]⟩⟩
theorem oks_set {os : List Ob} (h : Oks os) {i : Nat} {o : Ob} (ho : o.Ok) : Oks (os.set i o) := by
  intro x hx
  rcases List.mem_or_eq_of_mem_set hx with h1 | rfl
  · exact h x h1
  · exact ho
theorem oks_snoc {os : List Ob} (h : Oks os) {o : Ob} (ho : o.Ok) : Oks (os ++ [o]) := by
  intro x hx
  simp at hx
  rcases hx with h1 | rfl
  · exact h x h1
  · exact ho
/-- A new object. -/
def newO (t : Nat) (ps ns : List Int) : Ob := ⟨t, ps.length, ns.length, (ps ++ ns) ++ List.replicate (1 - (ps.length + ns.length)) 0⟩
theorem newO_len (t : Nat) (ps ns : List Int) : (newO t ps ns).body.length = max 1 (ps.length + ns.length) := by simp [newO]; omega
theorem newO_size (t : Nat) (ps ns : List Int) : (newO t ps ns).size = max 2 (1 + ps.length + ns.length) := by unfold Ob.size; rw [newO_len]; omega
theorem newO_ptrs (t : Nat) (ps ns : List Int) : (newO t ps ns).ptrs = ps := by simp [newO, Ob.ptrs]
theorem newO_nums (t : Nat) (ps ns : List Int) : (newO t ps ns).nums = ns := by simp [newO, Ob.nums]
theorem newO_ok {t : Nat} {ps ns : List Int} (h1 : 1 ≤ t) (h2 : t ≤ 7) (h3 : ps.length ≤ 60) (h4 : ns.length ≤ 60) (h5 : Shp t ps ns) : (newO t ps ns).Ok :=
  ⟨h1, h2, h3, h4, by rw [newO_len]; show ps.length + ns.length ≤ _; omega, by rw [newO_len]; omega, by rw [newO_len]; omega, by rw [newO_ptrs, newO_nums]; exact h5⟩
theorem loc_snoc : ∀ (os : List Ob) (o : Ob) (a : Int), loc (os ++ [o]) a = if a = total os then some os.length else loc os a
  | [], o, a => by
    show (if a = 0 then some 0 else (loc [] (a - o.size)).map (· + 1)) = if a = ((0 : Nat) : Int) then some 0 else none
    by_cases h : a = 0
    · rw [if_pos h, if_pos (by omega)]
    · rw [if_neg h, if_neg (by omega)]; rfl
  | p :: l, o, a => by
    have hs : p.size = p.body.length + 1 := rfl
    have ht : total (p :: l) = p.size + total l := rfl
    simp only [List.cons_append, loc, loc_snoc l o (a - p.size)]
    by_cases h0 : a = 0
    · rw [if_pos h0, if_pos h0, if_neg (by omega)]
    · rw [if_neg h0, if_neg h0]
      by_cases h1 : a - p.size = total l
      · rw [if_pos h1, if_pos (by omega)]; simp
      · rw [if_neg h1, if_neg (by omega)]
theorem adr_snoc (os : List Ob) (o : Ob) (i : Nat) (hi : i ≤ os.length) : adr (os ++ [o]) i = adr os i := by unfold adr; rw [List.take_append_of_le_length hi]
theorem ob_snoc (os : List Ob) (o : Ob) (a : Int) : ob (os ++ [o]) a = if a = total os then some o else ob os a := by
  unfold ob
  rw [loc_snoc]
  by_cases h : a = total os
  · rw [if_pos h, if_pos h]; simp
  · rw [if_neg h, if_neg h]
    cases h1 : loc os a with
    | none => rfl
    | some i => simp [List.getElem?_append_left (loc_some h1).1]
theorem ob_set {os : List Ob} {i : Nat} (h : i < os.length) {o : Ob} (e : o.body.length = os[i].body.length) (a : Int) : ob (os.set i o) a = if a = adr os i then some o else ob os a := by
  unfold ob
  rw [loc_set h e]
  by_cases h1 : a = adr os i
  · rw [if_pos h1, h1, loc_adr os i h]; simp [h]
  · rw [if_neg h1]
    cases h2 : loc os a with
    | none => rfl
    | some j =>
      have := loc_some h2
      have hne : i ≠ j := by rintro rfl; exact h1 this.2
      simp [List.getElem?_set_ne hne]
/-- All pointers are objects'. -/
def Closed (os : List Ob) : Prop := ∀ o ∈ os, ∀ p ∈ o.ptrs, ∃ q, ob os p = some q
/-- Does what is there only lead on; to what? -/
def nxt (os : List Ob) (a : Int) : Option Int := match ob os a with | some o => if o.tag = 5 then some (o.body.headD 0) else none | none => none
/-- What is there is followed, by so many steps at most. -/
def fol (os : List Ob) : Nat → Int → Int
  | n, a => match ob os a with
    | none => -1
    | some o => if o.tag = 5 then (match n with | 0 => -1 | n + 1 => fol os n (o.body.headD 0)) else a
def folOf (os : List Ob) (a : Int) : Int := fol os os.length a
/-- So many steps on. -/
def it (os : List Ob) : Nat → Int → Int
  | 0, a => a
  | n + 1, a => (nxt os (it os n a)).getD 0
def ledTo (os : List Ob) (a : Int) (n : Nat) : Prop := ∀ i, i < n → (nxt os (it os i a)).isSome = true
theorem pigeon : ∀ (N : Nat) (g : Nat → Nat), (∀ i, i ≤ N → g i < N) → ∃ i j, i < j ∧ j ≤ N ∧ g i = g j
  | 0, g, h => by have := h 0 (Nat.le_refl _); omega
  | N + 1, g, h => by
    by_cases hx : ∃ i, i ≤ N ∧ g i = g (N + 1)
    · obtain ⟨i, hi, e⟩ := hx; exact ⟨i, N + 1, by omega, Nat.le_refl _, e⟩
    · have hx' : ∀ i, i ≤ N → g i ≠ g (N + 1) := fun i hi e => hx ⟨i, hi, e⟩
      obtain ⟨i, j, h1, h2, h3⟩ := pigeon N (fun i => if g i = N then g (N + 1) else g i) (fun i hi => by
        have h4 := h i (by omega)
        have h5 := h (N + 1) (Nat.le_refl _)
        have h6 := hx' i hi
        show (if g i = N then g (N + 1) else g i) < N
        split
        · rename_i e; rw [e] at h6; omega
        · omega)
      refine ⟨i, j, h1, by omega, ?_⟩
      have a1 := hx' i (by omega)
      have a2 := hx' j h2
      split at h3 <;> split at h3 <;> omega
theorem it_succ' (os : List Ob) (n : Nat) (a : Int) : it os (n + 1) a = it os n ((nxt os a).getD 0) := by
  induction n with
  | zero => rfl
  | succ n ih => show (nxt os (it os (n + 1) a)).getD 0 = (nxt os (it os n _)).getD 0; rw [ih]
theorem it_add (os : List Ob) (n m : Nat) (a : Int) : it os (n + m) a = it os n (it os m a) := by
  induction n with
  | zero => simp [it]
  | succ n ih => rw [show n + 1 + m = (n + m) + 1 by omega]; show (nxt os (it os (n + m) a)).getD 0 = (nxt os (it os n (it os m a))).getD 0; rw [ih]
theorem nxt_some {os : List Ob} {a b : Int} (h : nxt os a = some b) : ∃ o, ob os a = some o ∧ o.tag = 5 ∧ b = o.body.headD 0 := by
  unfold nxt at h
  split at h
  · rename_i o ho
    split at h
    · rename_i ht; injection h with h; exact ⟨o, ho, ht, h.symm⟩
    · cases h
  · cases h
theorem Closed.next {os : List Ob} (hc : Closed os) (hk : Oks os) {a b : Int} (h : nxt os a = some b) : ∃ q, ob os b = some q := by
  obtain ⟨o, h1, h2, rfl⟩ := nxt_some h
  have ho := hk o (ob_mem h1)
  have h3 := ho.ind h2
  have h4 := ho.b1
  refine hc o (ob_mem h1) _ ?_
  unfold Ob.ptrs
  rw [h3]
  cases hb : o.body with
  | nil => rw [hb] at h4; simp at h4
  | cons x l => simp
theorem it_valid {os : List Ob} (hc : Closed os) (hk : Oks os) {a : Int} {q : Ob} (h0 : ob os a = some q) : ∀ {n : Nat}, ledTo os a n → ∀ i, i ≤ n → ∃ q, ob os (it os i a) = some q := by
  intro n hl i hi
  cases i with
  | zero => exact ⟨q, h0⟩
  | succ i =>
    have h1 := hl i (by omega)
    cases h2 : nxt os (it os i a) with
    | none => rw [h2] at h1; cases h1
    | some b => 
      have : it os (i + 1) a = b := by show (nxt os (it os i a)).getD 0 = b; rw [h2]; rfl
      rw [this]; exact hc.next hk h2
/-- Of more steps than there are objects two are at one place. -/
theorem it_twice {os : List Ob} (hc : Closed os) (hk : Oks os) {a : Int} {q : Ob} (h0 : ob os a = some q) (hl : ledTo os a os.length) : ∃ i j, i < j ∧ j ≤ os.length ∧ it os i a = it os j a := by
  have hv := fun i hi => it_valid hc hk h0 hl i hi
  obtain ⟨i, j, h1, h2, h3⟩ := pigeon os.length (fun i => (loc os (it os i a)).getD 0) (fun i hi => by
    obtain ⟨q, hq⟩ := hv i hi
    obtain ⟨k, hk, h4, _⟩ := ob_some hq
    show (loc os (it os i a)).getD 0 < _
    rw [h4]; exact hk)
  refine ⟨i, j, h1, h2, ?_⟩
  obtain ⟨q1, hq1⟩ := hv i (by omega)
  obtain ⟨k1, _, e1, e2, _⟩ := ob_some hq1
  obtain ⟨q2, hq2⟩ := hv j h2
  obtain ⟨k2, _, e3, e4, _⟩ := ob_some hq2
  simp only [e1, e3, Option.getD_some] at h3
  rw [e2, e4, h3]
theorem it_period {os : List Ob} {a : Int} {i d : Nat} (h : it os (i + d) a = it os i a) : ∀ n, i ≤ n → it os (n + d) a = it os n a := by
  intro n hn
  obtain ⟨m, rfl⟩ : ∃ m, n = m + i := ⟨n - i, by omega⟩
  rw [show m + i + d = m + (i + d) by omega, it_add os m (i + d), h, ← it_add]
theorem led_ever {os : List Ob} {a : Int} {i j : Nat} (hij : i < j) (h : it os j a = it os i a) (hl : ledTo os a j) : ∀ n, ledTo os a n := by
  have hp : ∀ n, i ≤ n → it os (n + (j - i)) a = it os n a := it_period (by rw [show i + (j - i) = j by omega]; exact h)
  have key : ∀ n, (nxt os (it os n a)).isSome = true := by
    intro n
    induction n using Nat.strongRecOn with
    | _ n ih =>
      by_cases hn : n < j
      · exact hl n hn
      · have e := hp (n - (j - i)) (by omega)
        rw [show n - (j - i) + (j - i) = n by omega] at e
        rw [e]; exact ih _ (by omega)
  exact fun n k _ => key k
theorem fol_led {os : List Ob} (hc : Closed os) (hk : Oks os) : ∀ (n : Nat) (a : Int), (∃ q, ob os a = some q) → ledTo os a (n + 1) → fol os n a = -1 := by
  intro n
  induction n with
  | zero =>
    rintro a ⟨q, hq⟩ h
    · have h1 := h 0 (by omega)
      cases h2 : nxt os (it os 0 a) with
      | none => rw [h2] at h1; cases h1
      | some b =>
        obtain ⟨o, e1, e2, _⟩ := nxt_some h2
        unfold fol
        have e3 : it os 0 a = a := rfl
        rw [e3] at e1
        rw [e1]; simp [e2]
  | succ n ih =>
    rintro a ⟨q, hq⟩ h
    · have h1 := h 0 (by omega)
      cases h2 : nxt os (it os 0 a) with
      | none => rw [h2] at h1; cases h1
      | some b =>
        have hb := hc.next hk h2
        obtain ⟨o, e1, e2, e4⟩ := nxt_some h2
        have e3 : it os 0 a = a := rfl
        rw [e3] at e1 h2
        have hl : ledTo os b (n + 1) := by
          intro i hi
          have := h (i + 1) (by omega)
          rw [it_succ', h2] at this; exact this
        have := ih b hb hl
        unfold fol
        rw [e1]; simp only [e2, if_pos]; rw [← e4]; exact this
/-- It comes round: it leads nowhere. -/
theorem fol_round {os : List Ob} (hc : Closed os) (hk : Oks os) {a : Int} {q : Ob} (h0 : ob os a = some q) {i j : Nat} (hij : i < j) (h : it os j a = it os i a) (hl : ledTo os a j) : folOf os a = -1 := by
  exact fol_led hc hk os.length a ⟨q, h0⟩ (led_ever hij h hl _)
theorem fol_end_aux {os : List Ob} : ∀ (j n : Nat) (a : Int), j ≤ n → ledTo os a j → (∃ q, ob os (it os j a) = some q ∧ q.tag ≠ 5) → fol os n a = it os j a
  | 0, n, a, _, _, ⟨q, h1, h2⟩ => by
    have e : it os 0 a = a := rfl
    rw [e] at h1 ⊢
    unfold fol; rw [h1]; simp [h2]
  | j + 1, n + 1, a, h, hl, hq => by
    have h1 := hl 0 (by omega)
    cases h2 : nxt os (it os 0 a) with
    | none => rw [h2] at h1; cases h1
    | some b =>
      obtain ⟨o, e1, e2, e4⟩ := nxt_some h2
      have e3 : it os 0 a = a := rfl
      rw [e3] at e1 h2
      have e5 : it os (j + 1) a = it os j b := by rw [it_succ', h2]; rfl
      rw [e5] at hq ⊢
      have hl2 : ledTo os b j := by
        intro i hi
        have := hl (i + 1) (by omega)
        rw [it_succ', h2] at this; exact this
      have := fol_end_aux j n b (by omega) hl2 hq
      unfold fol; rw [e1]; simp only [e2, if_pos]; rw [← e4]; exact this
theorem led_short {os : List Ob} (hc : Closed os) (hk : Oks os) {a : Int} {q : Ob} (h0 : ob os a = some q) {j : Nat} (hl : ledTo os a j) (hn : nxt os (it os j a) = none) : j < os.length := by
  apply Classical.byContradiction
  intro hge
  obtain ⟨i, k, h1, h2, h3⟩ := it_twice hc hk h0 (fun i hi => hl i (by omega))
  have := led_ever h1 h3.symm (fun i hi => hl i (by omega)) (j + 1) j (by omega)
  rw [hn] at this; cases this
/-- What does not lead on is found. -/
theorem fol_end {os : List Ob} (hc : Closed os) (hk : Oks os) {a : Int} {q : Ob} (h0 : ob os a = some q) {j : Nat} (hl : ledTo os a j) {r : Ob} (hr : ob os (it os j a) = some r) (ht : r.tag ≠ 5) : folOf os a = it os j a :=
  fol_end_aux j os.length a (Nat.le_of_lt (led_short hc hk h0 hl (by unfold nxt; rw [hr]; simp [ht]))) hl ⟨r, hr, ht⟩
/-- How far the one who holds may be ahead. -/
theorem held_bound {os : List Ob} (hc : Closed os) (hk : Oks os) {a : Int} {q : Ob} (h0 : ob os a = some q) {h s : Nat} (hl : ledTo os a (h + s)) (hd : ∀ i, h < i → i ≤ h + s → it os i a ≠ it os h a) (hh : os.length ≤ h) : s < os.length := by
  obtain ⟨i, k, h1, h2, h3⟩ := it_twice hc hk h0 (fun i hi => hl i (by omega))
  apply Classical.byContradiction
  intro hge
  have hp := it_period (os := os) (a := a) (i := i) (d := k - i) (by rw [show i + (k - i) = k by omega]; exact h3.symm) h (by omega)
  exact hd (h + (k - i)) (by omega) (by omega) hp
end Go.Proofs.Ytkekekdkfjjifaa
namespace Go.Proofs.Ytkekekdkfjjifaa
open Go.RowKit
set_option linter.unusedVariables false
set_option linter.unusedSimpArgs false
def wcells (l : List Wd) : List Value := l.flatMap Wd.cells
theorem wcells_length (l : List Wd) : (wcells l).length = l.length * 5 := by
  induction l with
  | nil => rfl
  | cons a l ih => simp only [wcells, List.flatMap_cons, List.length_append] at ih ⊢; rw [ih]; simp [Wd.cells]; omega
theorem wcells_append (l m : List Wd) : wcells (l ++ m) = wcells l ++ wcells m := by simp [wcells]
theorem wcells_get (l : List Wd) (i : Nat) (h : i < l.length) (j : Nat) (hj : j < 5) : (wcells l)[i * 5 + j]? = l[i].cells[j]? := by
  induction l generalizing i with
  | nil => simp at h
  | cons a l ih =>
    have e : wcells (a :: l) = a.cells ++ wcells l := rfl
    have hl : a.cells.length = 5 := rfl
    cases i with
    | zero => rw [e, List.getElem?_append_left (by omega)]; simp
    | succ i =>
      rw [e, List.getElem?_append_right (by omega), show (i + 1) * 5 + j - a.cells.length = i * 5 + j by omega]
      exact ih i (by simpa using h)
/-- The heap at block b has these words; G: where they lie. -/
def Hp (w : World) (b : Nat) (G : Option Nat) (l : List Wd) (m : Nat) : Prop :=
  ∃ lv, w.heap[b]? = some (.cells #[lv, .int .i64 m] 75 (0, 0)) ∧ lv.ownBlock = G ∧ w.ownsRow 0 79 5 lv l.length (wcells l) ∧ l.length ≤ 1000000 ∧ (∀ x ∈ l, x.low)
theorem Hp.lt {w : World} {b : Nat} {G : Option Nat} {l : List Wd} {m : Nat} (h : Hp w b G l m) : b < w.heap.size := by
  obtain ⟨lv, h1, _⟩ := h
  exact (Array.getElem?_eq_some_iff.1 h1).1
theorem Hp.glt {w : World} {b : Nat} {G : Option Nat} {l : List Wd} {m : Nat} (h : Hp w b G l m) : ∀ k, G = some k → k < w.heap.size ∧ k ≠ b := by
  obtain ⟨lv, h1, h2, h3, _⟩ := h
  intro k hk
  refine ⟨(h3.lt k (h2.trans hk)).2, ?_⟩
  rintro rfl
  rcases h3.2 with ⟨rfl, _⟩ | ⟨g, cap, cur, rfl, _, h4, _⟩
  · simp [Value.ownBlock] at h2; rw [← h2] at hk; cases hk
  · have : g = k := by rw [← h2] at hk; injection hk
    subst this
    rw [h1] at h4
    injection h4 with h4
    injection h4 with _ h5
    exact absurd h5 (by decide)
theorem Hp.keep {w w' : World} {b : Nat} {G : Option Nat} {l : List Wd} {m : Nat} (h : Hp w b G l m) (hb : w'.heap[b]? = w.heap[b]?) (hg : ∀ k, G = some k → w'.heap[k]? = w.heap[k]?) : Hp w' b G l m := by
  obtain ⟨lv, h1, h2, h3, h4⟩ := h
  refine ⟨lv, hb.trans h1, h2, ⟨h3.1, ?_⟩, h4⟩
  rcases h3.2 with h | ⟨g, cap, cur, e, hB, hh, r⟩
  · exact .inl h
  · subst e
    exact .inr ⟨g, cap, cur, rfl, hB, (hg g (by rw [← h2]; rfl)).trans hh, r⟩
theorem Hp.below {w w' : World} {b : Nat} {G : Option Nat} {l : List Wd} {m : Nat} (h : Hp w b G l m) (hb : Below w.heap.size w w') : Hp w' b G l m :=
  h.keep (hb.block _ h.lt) (fun k hk => hb.block _ (h.glt k hk).1)
/-- What a slice of words is, and its cells. -/
theorem Hp.cell {w : World} {b : Nat} {G : Option Nat} {l : List Wd} {m : Nat} (h : Hp w b G l m) : ∃ ao cap, w.cell? ⟨b, 0, none⟩ = some (.slice ao l.length cap) ∧ w.cell? ⟨b, 1, none⟩ = some (.int .i64 m) ∧ w.frozen? ⟨b, 0, none⟩ = false ∧ l.length ≤ cap ∧
    (∀ i (hi : i < l.length), ∃ g, ao = some ⟨g, 0, none⟩ ∧ G = some g ∧ (∃ c, w.heap[g]? = some (.cells c 79 (0, 0))) ∧ w.cell? ⟨g, i * 5, none⟩ = some (.int .u8 l[i].t) ∧ w.cell? ⟨g, i * 5 + 1, none⟩ = some (.int .u8 l[i].p) ∧ w.cell? ⟨g, i * 5 + 2, none⟩ = some (.int .u8 l[i].n) ∧ w.cell? ⟨g, i * 5 + 3, none⟩ = some (.int .u8 l[i].s) ∧ w.cell? ⟨g, i * 5 + 4, none⟩ = some (.int .i64 l[i].v)) := by
  obtain ⟨lv, h1, h2, h3, h4, _⟩ := h
  have hf : w.frozen? ⟨b, 0, none⟩ = false := frozen_of_row w b 0 _ 75 h1
  have hm : w.cell? ⟨b, 1, none⟩ = some (.int .i64 m) := by rw [cell_of_row _ _ _ _ _ _ h1]; rfl
  have h0 : w.cell? ⟨b, 0, none⟩ = some lv := by rw [cell_of_row _ _ _ _ _ _ h1]; rfl
  rcases h3.2 with ⟨rfl, hz⟩ | ⟨g, cap, cur, rfl, _, hh, hn, hcm, hcs, ht⟩
  · rw [← hz] at h0
    exact ⟨none, 0, by rw [hz] at h0; rw [h0, hz], hm, hf, by omega, fun i hi => by omega⟩
  · refine ⟨_, cap, h0, hm, hf, hn, fun i hi => ⟨g, rfl, by rw [← h2]; rfl, ⟨_, hh⟩, ?_⟩⟩
    have hc : ∀ j, j < 5 → w.cell? ⟨g, i * 5 + j, none⟩ = l[i].cells[j]? := fun j hj => by
      rw [cell_of_row _ _ _ _ _ _ hh, ← Array.getElem?_toList, ← wcells_get l i hi j hj, ← ht, List.getElem?_take, if_pos (by omega)]
    exact ⟨hc 0 (by decide), hc 1 (by decide), hc 2 (by decide), hc 3 (by decide), hc 4 (by decide)⟩
theorem end_any {w : World} {b : Nat} {G : Option Nat} {l : List Wd} {m : Nat} (h : Hp w b G l m) : Calls Try.prog 44 #[.pointer (some ⟨b, 0, none⟩)] w fun e w' => e = .returned (.int .i64 l.length) ∧ w = w' := by
  obtain ⟨ao, cap, h0, _⟩ := h.cell
  clear h
  go_enter Try.func44, Try.ntmps44
  go_wp2
  go_ret
  exact ⟨rfl, rfl⟩
theorem used_any {w : World} {b : Nat} {G : Option Nat} {l : List Wd} {m : Nat} (h : Hp w b G l m) : Calls Try.prog 20 #[.pointer (some ⟨b, 0, none⟩)] w fun e w' => e = .returned (.int .i64 l.length) ∧ w = w' := by
  have F := Lib.hid (end_any h)
  obtain ⟨ao, cap, h0, _⟩ := h.cell
  clear h
  go_enter Try.func20, Try.ntmps20
  go_wp2_with fail
  refine F.out.mono ?_
  rintro e w' ⟨rfl, rfl⟩
  go_wp2_with fail
  go_ret
  exact ⟨rfl, rfl⟩
theorem words_any {w : World} {b : Nat} {G : Option Nat} {l : List Wd} {m : Nat} (h : Hp w b G l m) : Calls Try.prog 26 #[.pointer (some ⟨b, 0, none⟩)] w fun e w' => e = .returned (.int .i64 m) ∧ w = w' := by
  obtain ⟨ao, cap, h0, h1, _⟩ := h.cell
  clear h
  go_enter Try.func26, Try.ntmps26
  go_wp2
  go_ret
  exact ⟨rfl, rfl⟩
/-- The head of the word there. -/
def hdAt (l : List Wd) (a : Int) : Wd := if h : 0 ≤ a ∧ a < l.length then l[a.toNat]'(by omega) else ⟨0, 0, 0, 0, 0⟩
theorem head_any {w : World} {b : Nat} {G : Option Nat} {l : List Wd} {m : Nat} (h : Hp w b G l m) (a : Int) (ha : -9223372036854775808 ≤ a) (hb : a ≤ 9223372036854775807) :
    Calls Try.prog 46 #[.pointer (some ⟨b, 0, none⟩), .int .i64 a] w (RetV (.agg (hdAt l a).hd) w) := by
  have F := Lib.hid (fun o => end_any (h.below ((Below.refl _ _).alloc (Nat.le_refl _) o)))
  obtain ⟨ao, cap, h0, h1, hf, hcap, hc⟩ := h.cell
  have hbl := h.lt
  have hgl := h.glt
  have hll : l.length ≤ 1000000 := by obtain ⟨_, _, _, _, h, _⟩ := h; exact h
  clear h
  by_cases hr : 0 ≤ a
  · by_cases hr2 : a < l.length
    · have e : hdAt l a = l[a.toNat]'(by omega) := by unfold hdAt; rw [dif_pos ⟨hr, hr2⟩]
      rw [e]
      clear e
      obtain ⟨k, rfl⟩ : ∃ k : Nat, a = k := ⟨a.toNat, by omega⟩
      have hk : k < l.length := by omega
      obtain ⟨g, rfl, hG, ⟨c, hg⟩, c0, c1, c2, c3, c4⟩ := hc k hk
      have hgl := (hgl g hG).1
      simp only [Int.toNat_natCast]
      obtain ⟨x, hx⟩ : ∃ x, x = l[k] := ⟨_, rfl⟩
      rw [← hx] at c0 c1 c2 c3 c4 ⊢
      clear hx hc hG
      go_enter Try.func46, Try.ntmps46
      go_wp2_with fail
      refine (F.out _).mono ?_
      rintro e w' ⟨rfl, rfl⟩
      go_wp2_with fail
      refine bodyPost_ret (results_cell_row rfl _ _ w.heap.size 77 x.hd (0, 0) _ rfl (alloc_at _ _) Try.underlying77 rfl info55) rfl ?_
      exact ⟨rfl, (Below.refl _ _).alloc (Nat.le_refl _) _⟩
    · have e : hdAt l a = ⟨0, 0, 0, 0, 0⟩ := by unfold hdAt; rw [dif_neg (by omega)]
      rw [e]
      clear e hc
      go_enter Try.func46, Try.ntmps46
      go_wp2_with fail
      refine (F.out _).mono ?_
      rintro e w' ⟨rfl, rfl⟩
      go_wp2_with fail
      refine bodyPost_ret (results_cell_row rfl _ _ w.heap.size 77 #[.int .u8 0, .int .u8 0, .int .u8 0, .int .u8 0] (0, 0) _ rfl (alloc_at _ _) Try.underlying77 rfl info55) rfl ?_
      exact ⟨rfl, (Below.refl _ _).alloc (Nat.le_refl _) _⟩
  · have e : hdAt l a = ⟨0, 0, 0, 0, 0⟩ := by unfold hdAt; rw [dif_neg (by omega)]
    rw [e]
    clear e hc
    go_enter Try.func46, Try.ntmps46
    go_wp2_with fail
    refine bodyPost_ret (results_cell_row rfl _ _ w.heap.size 77 #[.int .u8 0, .int .u8 0, .int .u8 0, .int .u8 0] (0, 0) _ rfl (alloc_at _ _) Try.underlying77 rfl info55) rfl ?_
    exact ⟨rfl, (Below.refl _ _).alloc (Nat.le_refl _) _⟩
end Go.Proofs.Ytkekekdkfjjifaa
namespace Go.Proofs.Ytkekekdkfjjifaa
open Go Go.RowKit
set_option linter.unusedVariables false
set_option linter.unusedSimpArgs false
theorem Wd.hd_eq {x y : Wd} (h : x.hd = y.hd) : x.t = y.t ∧ x.p = y.p ∧ x.n = y.n ∧ x.s = y.s := by
  obtain ⟨a, b, c, d, e⟩ := x
  obtain ⟨a', b', c', d', e'⟩ := y
  simp [Wd.hd] at h
  simp; omega
theorem hdAt_eq (os : List Ob) (a : Int) : (hdAt (wds os) a).hd = (hdo os a).hd := hdAt_wds rfl a
theorem hdo_low {os : List Ob} (hk : Oks os) (a : Int) : (hdo os a).low := by
  unfold hdo
  cases h : ob os a with
  | none => simp [Wd.low]
  | some o =>
    have := hk o (ob_mem h)
    have e : o.size = o.body.length + 1 := rfl
    exact ⟨by have := this.t2; simp [Ob.head]; omega, by have := this.p; simp [Ob.head]; omega, by have := this.n; simp [Ob.head]; omega, by have := this.b2; simp [Ob.head]; omega⟩
/-- The heap at b is these objects. -/
def HpO (w : World) (b : Nat) (G : Option Nat) (os : List Ob) (m : Nat) : Prop := Hp w b G (wds os) m ∧ Oks os ∧ Closed os ∧ m ≤ 1000000 ∧ total os ≤ m
theorem HpO.below {w w' : World} {b : Nat} {G : Option Nat} {os : List Ob} {m : Nat} (h : HpO w b G os m) (hb : Below w.heap.size w w') : HpO w' b G os m := ⟨h.1.below hb, h.2⟩
theorem head_o {w : World} {b : Nat} {G : Option Nat} {os : List Ob} {m : Nat} (h : HpO w b G os m) (a : Int) (ha : -9223372036854775808 ≤ a) (hb : a ≤ 9223372036854775807) :
    Calls Try.prog 46 #[.pointer (some ⟨b, 0, none⟩), .int .i64 a] w (RetV (.agg (hdo os a).hd) w) := by
  have := head_any h.1 a ha hb
  rw [hdAt_eq] at this
  exact this
theorem tagm_any {w : World} {b : Nat} {G : Option Nat} {os : List Ob} {m : Nat} (h : HpO w b G os m) (a : Int) (ha : -9223372036854775808 ≤ a) (hb : a ≤ 9223372036854775807) :
    Calls Try.prog 22 #[.pointer (some ⟨b, 0, none⟩), .int .i64 a] w (RetV (.int .i64 ((hdo os a).t : Nat)) w) := by
  have F := Lib.hid (head_o h a ha hb)
  have hl := (hdo_low h.2.1 a).1
  have hbl := h.1.lt
  obtain ⟨ao, cap, h0, _⟩ := h.1.cell
  clear h
  generalize hdo os a = x at F hl
  go_enter Try.func22, Try.ntmps22
  go_wp2_with fail
  refine F.out.mono ?_
  rintro e w' ⟨rfl, hw'⟩
  have HB := Lib.hid hw'
  clear hw' F
  go_wp2_with fail
  refine (tag_any x.t x.p x.n x.s hl _).mono ?_
  rintro e w2 ⟨rfl, hw2⟩
  have HB2 := Lib.hid (HB.out.trans (hw2.mono HB.out.size))
  clear hw2 HB
  go_wp2_with fail
  go_ret
  exact ⟨rfl, HB2.out⟩
/-- A row of numbers of the call's own. -/
def RetI (xs : List Int) (w : World) (e : Ending) (w' : World) : Prop :=
  ∃ v, e = .returned v ∧ w'.ownsRow w.heap.size 3 1 v xs.length (xs.map (Value.int .i64)) ∧ Below w.heap.size w w'
def ivals (l : List Int) : Array Value := (l.map (Value.int .i64)).toArray
theorem ivals_size (l : List Int) : (ivals l).size = l.length := by simp [ivals]
theorem ivals_set (l : List Int) (j : Nat) (v : Int) : (ivals l).setIfInBounds j (.int .i64 v) = ivals (l.set j v) := by
  unfold ivals
  rw [List.setIfInBounds_toArray, ← List.map_set]
theorem made_ivals (n : Nat) : madeCells (Value.int .i64 0).cells n = ivals (List.replicate n 0) := by
  apply Array.ext
  · rw [size_madeCells, ivals_size, List.length_replicate]
  · intro i h1 h2
    simp [madeCells, ivals, Value.cells, Nat.mod_one]
theorem infoI3 : (Try.prog.info? 3).map (fun i => (i.zero, i.size, i.bytes)) = some (some (.int .i64 0), 1, 8) := by kernel_rfl
theorem info_parts {P : Program} {t : TypeId} {z : Value} {s b : Nat} (h : (P.info? t).map (fun i => (i.zero, i.size, i.bytes)) = some (some z, s, b)) : ∃ i, P.info? t = some i ∧ i.zero = some z ∧ i.size = s ∧ i.bytes = b := by
  cases hi : P.info? t with
  | none => rw [hi] at h; simp at h
  | some i => rw [hi] at h; simp at h; exact ⟨i, rfl, h.1, h.2.1, h.2.2⟩
theorem run_make_ints (n : Nat) (hn : n ≤ 1000000) (w : World) :
    (Instr.makeSlice 22 (.int .i64 n) (.int .i64 n)).run Try.prog w = .ok (.slice (some ⟨w.heap.size, 0, none⟩) n n) (w.alloc (.cells (ivals (List.replicate n 0)) 3)) := by
  obtain ⟨i, hi, hz, h1, h2⟩ := info_parts infoI3
  have := run_make (P := Try.prog) w 22 3 i (.int .i64 0) Try.underlying22 hi hz .i64 .i64 n n (by omega) (Int.le_refl _) (by rw [h2]; omega) (by omega)
  rw [h1, Nat.mul_one, made_ivals, Int.toNat_natCast] at this
  exact this
/-- A block of numbers. -/
def IRw (w : World) (g : Nat) (l : List Int) : Prop := w.heap[g]? = some (.cells (ivals l) 3 (0, 0))
theorem IRw.put {w : World} {g : Nat} {l : List Int} (h : IRw w g l) (j : Nat) (v : Int) : IRw (w.setCell ⟨g, j, none⟩ (.int .i64 v)) g (l.set j v) := by
  have := heap_setCell_same w g j _ 3 (.int .i64 v) h
  rw [ivals_set] at this
  exact this
theorem IRw.cell {w : World} {g : Nat} {l : List Int} (h : IRw w g l) (j : Nat) (hj : j < l.length) : w.cell? ⟨g, j, none⟩ = some (.int .i64 l[j]) := by
  rw [cell_of_row w g j _ _ _ h]
  unfold ivals
  rw [List.getElem?_toArray, List.getElem?_map, List.getElem?_eq_getElem hj]; rfl
theorem IRw.lt {w : World} {g : Nat} {l : List Int} (h : IRw w g l) : g < w.heap.size := (Array.getElem?_eq_some_iff.1 h).1
theorem IRw.owns {w : World} {g B : Nat} {l : List Int} (h : IRw w g l) (hB : B ≤ g) (hm : l.length ≤ 1000000) : w.ownsRow B 3 1 (.slice (some ⟨g, 0, none⟩) l.length l.length) l.length (l.map (Value.int .i64)) := by
  refine ⟨by simp, .inr ⟨g, _, _, rfl, hB, h, Nat.le_refl _, by unfold maxLen; omega, by simp [ivals], ?_⟩⟩
  simp only [ivals, Nat.mul_one]
  rw [List.take_of_length_le (by simp)]
theorem take_set_snoc {xs l : List Int} {k : Nat} (hk : k < xs.length) (hl : l.length = xs.length) (h : l.take k = xs.take k) : (l.set k xs[k]).take (k + 1) = xs.take (k + 1) := by
  rw [List.take_succ_eq_append_getElem hk, List.take_succ_eq_append_getElem (by simp; omega)]
  simp [h, List.take_set_of_le]
/-- The copy's loop. -/
def VInv (xs : List Int) (w : World) (iv : Value) (wr : World) : Prop :=
  ∃ (k : Nat) (l : List Int), k ≤ xs.length ∧ iv = .int .i64 (k : Int) ∧ l.length = xs.length ∧ l.take k = xs.take k ∧ IRw wr w.heap.size l ∧ Below w.heap.size w wr
theorem values_any {w : World} {b : Nat} {G : Option Nat} {os : List Ob} {m : Nat} (h : HpO w b G os m) (f : Int) (xs : List Int) (hf1 : -9000000000 ≤ f) (hf2 : f ≤ 9000000000) (hx : ∀ i (hi : i < xs.length), 0 ≤ f ∧ (wds os)[f.toNat + i]? = some ⟨0, 0, 0, 0, xs[i]⟩) (hlen : xs.length ≤ 200) :
    Calls Try.prog 48 #[.pointer (some ⟨b, 0, none⟩), .int .i64 f, .int .i64 xs.length] w (RetI xs w) := by
  have hmk := run_make_ints xs.length (by omega) w
  have hC := h.1
  have HC := Lib.hid (fun wr (hb : Below w.heap.size w wr) => (hC.below hb).cell)
  have hbl := hC.lt
  have hGl := hC.glt
  have hX := Lib.hid hx
  have H0 : VInv xs w (.int .i64 0) (w.alloc (.cells (ivals (List.replicate xs.length 0)) 3)) :=
    ⟨0, _, Nat.zero_le _, rfl, by simp, by simp, alloc_at w _, (Below.refl _ _).alloc (Nat.le_refl _) _⟩
  have h0' := Lib.hid H0
  have hwl : (wds os).length ≤ 1000000 := by obtain ⟨_, _, _, _, h1, _⟩ := hC; exact h1
  generalize hW : w.alloc (.cells (ivals (List.replicate xs.length 0)) 3) = W1 at hmk h0'
  clear hx H0 hW h hC
  obtain ⟨n, hn⟩ : ∃ n, n = xs.length := ⟨_, rfl⟩
  rw [← hn] at hlen hmk ⊢
  have hN := Lib.hid hn
  clear hn
  go_enter Try.func48, Try.ntmps48
  obtain ⟨g0, hg0⟩ : ∃ g0, w.heap.size = g0 := ⟨_, rfl⟩
  rw [hg0] at hmk
  have HG0 := Lib.hid hg0
  clear hg0
  go_wp2
  go_loopw [13] (fun iv wr => VInv xs w iv wr) (fun iv _ => n - (intOf iv).toNat)
  case atStart => exact h0'.out
  case round =>
    clear h0' hmk
    obtain ⟨k, l, hk, rfl, hll, htk, hrow, hbel⟩ := hrel
    rw [← hN.out] at hk
    have HB := Lib.hid hbel
    have HT := Lib.hid htk
    have HL := Lib.hid hll
    have HR := Lib.hid hrow
    clear htk hll hrow hbel
    by_cases hkn : k < n
    · have q1 : decide ((k : Int) < (n : Int)) = true := decide_eq_true (by omega)
      have hkx : k < xs.length := by rw [← hN.out]; exact hkn
      obtain ⟨hf0, hx⟩ := hX.out k hkx
      obtain ⟨fn, rfl⟩ : ∃ fn : Nat, f = fn := ⟨f.toNat, by omega⟩
      obtain ⟨j, hj⟩ : ∃ j, j = fn + k := ⟨_, rfl⟩
      rw [Int.toNat_natCast, ← hj] at hx
      have hjl : j < (wds os).length := (List.getElem?_eq_some_iff.1 hx).1
      have hje := (List.getElem?_eq_some_iff.1 hx).2
      obtain ⟨ao, cap, hc0, _, _, hcap, hc⟩ := HC.out wr HB.out
      obtain ⟨g, rfl, hG, _, _, _, _, _, hcv⟩ := hc j hjl
      rw [hje] at hcv
      simp only at hcv
      have hfj : (fn : Int) + (k : Int) = (j : Int) := by omega
      obtain ⟨y, hy⟩ : ∃ y, y = xs[k] := ⟨_, rfl⟩
      rw [← hy] at hcv
      obtain ⟨L, hLd⟩ : ∃ L, L = (wds os).length := ⟨_, rfl⟩
      rw [← hLd] at hc0 hcap hjl hwl
      have hjL : (j : Int) < (L : Int) := by omega
      have HREL : Hid (VInv xs w (.int .i64 ((k : Int) + 1)) (wr.setCell ⟨g0, k, none⟩ (.int .i64 y))) := by
        refine ⟨k + 1, l.set k y, by omega, by go_num, by simp [HL.out], ?_, ?_, ?_⟩
        · rw [hy]; exact take_set_snoc hkx HL.out HT.out
        · rw [HG0.out]; have := HR.out; rw [HG0.out] at this; exact this.put k y
        · exact HB.out.setCell (p := ⟨g0, k, none⟩) (by show w.heap.size ≤ g0; rw [HG0.out]; exact Nat.le_refl _) _
      have hcl : wr.cell? ⟨g0, k, none⟩ = some (.int .i64 (l[k]'(by rw [HL.out]; exact hkx))) := by
        have := HR.out; rw [HG0.out] at this; exact this.cell k _
      have hfr : wr.frozen? ⟨g0, k, none⟩ = false := by
        have := HR.out; rw [HG0.out] at this; exact frozen_of_row wr g0 k _ 3 this
      generalize l[k]'(by rw [HL.out]; exact hkx) = z at hcl
      clear hx hje hc hG hLd hj hy
      go_wp2
      go_roundw
      case rel => exact HREL.out
      case measure => simp [intOf]; omega
    · have q1 : decide ((k : Int) < (n : Int)) = false := decide_eq_false (by omega)
      have hkn2 : k = xs.length := by rw [← hN.out]; omega
      have HE : Hid (∃ v, Value.slice (some ⟨g0, 0, none⟩) n n = v ∧ wr.ownsRow w.heap.size 3 1 v xs.length (xs.map (Value.int .i64))) := by
        refine ⟨_, rfl, ?_⟩
        have hl : l = xs := by
          have := HT.out; rw [hkn2, List.take_of_length_le (by rw [HL.out]; exact Nat.le_refl _), List.take_length] at this; exact this
        have := HR.out
        rw [hl, HG0.out] at this
        rw [hN.out, HG0.out]
        exact this.owns (Nat.le_refl _) (by rw [← hN.out]; omega)
      clear hkn2
      go_wp2
      go_ret
      obtain ⟨v, hv, ho⟩ := HE.out
      exact ⟨_, rfl, hv ▸ ho, HB.out⟩
end Go.Proofs.Ytkekekdkfjjifaa
