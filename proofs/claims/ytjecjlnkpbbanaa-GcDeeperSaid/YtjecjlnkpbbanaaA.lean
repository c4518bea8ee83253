/- Contracts of small functions: a word's head. -/
import Derived.Test.YtjecjlnkpbbanaaProg
import Derived.WalkKit
import Derived.Lib.Hide
import Derived.Below
import Derived.PlainAid
import Derived.OwnWalk
import Derived.Laws.AppendOwn
import Derived.Laws.MakeOwn
import Derived.Laws.Rows
import Derived.Deep.RegionHeld
import Derived.Deep.RegionHeld3
import Derived.Deep.MidRow
import Derived.Deep.Draws
import Derived.Deep.Cut
import Derived.ScopeJumps
import Derived.Deep.LoopGhost
import Derived.Deep.WholeRow
import Derived.Deep.AppendSrc
namespace Go.Proofs.Ytjecjlnkpbbanaa
open Go.RowKit
set_option linter.unusedVariables false
set_option linter.unusedSimpArgs false
/-- What is answered; no block that was there has turned. -/
def RetV (v : Value) (w : World) (e : Ending) (w' : World) : Prop := e = .returned v ∧ Below w.heap.size w w'
theorem alloc_at (w : World) (o : Obj) : (w.alloc o).heap[w.heap.size]? = some o := heap_alloc_new w o
theorem ret_int {k : IntKind} {a b : Int} (h : a = b) : Ending.returned (.int k a) = .returned (.int k b) := by rw [h]
/-- A word: its head's four bytes, its value. -/
structure Wd where
  t : Nat
  p : Nat
  n : Nat
  s : Nat
  v : Int
def Wd.low (x : Wd) : Prop := x.t ≤ 255 ∧ x.p ≤ 255 ∧ x.n ≤ 255 ∧ x.s ≤ 255
def Wd.hd (x : Wd) : Array Value := #[.int .u8 x.t, .int .u8 x.p, .int .u8 x.n, .int .u8 x.s]
def Wd.cells (x : Wd) : List Value := [.int .u8 x.t, .int .u8 x.p, .int .u8 x.n, .int .u8 x.s, .int .i64 x.v]
theorem tag_any (t p n s : Nat) (h1 : t ≤ 255) (w : World) : Calls Try.prog 47 #[.agg #[.int .u8 t, .int .u8 p, .int .u8 n, .int .u8 s]] w (RetV (.int .i64 t) w) := by
  go_enter Try.func47, Try.ntmps47
  go_wp2
  go_ret
  exact ⟨ret_int (by omega), (Below.refl _ _).alloc (Nat.le_refl _) _⟩
theorem is_any (t p n s : Nat) (w : World) : Calls Try.prog 51 #[.agg #[.int .u8 t, .int .u8 p, .int .u8 n, .int .u8 s]] w (RetV (.bool (decide (0 < s))) w) := by
  go_enter Try.func51, Try.ntmps51
  go_wp2
  go_ret
  exact ⟨by simp, (Below.refl _ _).alloc (Nat.le_refl _) _⟩
theorem size_any (t p n s : Nat) (h1 : s ≤ 255) (w : World) : Calls Try.prog 45 #[.agg #[.int .u8 t, .int .u8 p, .int .u8 n, .int .u8 s]] w (RetV (.int .i64 s) w) := by
  go_enter Try.func45, Try.ntmps45
  go_wp2
  go_ret
  exact ⟨ret_int (by omega), (Below.refl _ _).alloc (Nat.le_refl _) _⟩
theorem ptrs_any (t p n s : Nat) (h1 : p ≤ 255) (w : World) : Calls Try.prog 49 #[.agg #[.int .u8 t, .int .u8 p, .int .u8 n, .int .u8 s]] w (RetV (.int .i64 p) w) := by
  go_enter Try.func49, Try.ntmps49
  go_wp2
  go_ret
  exact ⟨ret_int (by omega), (Below.refl _ _).alloc (Nat.le_refl _) _⟩
theorem nums_any (t p n s : Nat) (h1 : n ≤ 255) (w : World) : Calls Try.prog 50 #[.agg #[.int .u8 t, .int .u8 p, .int .u8 n, .int .u8 s]] w (RetV (.int .i64 n) w) := by
  go_enter Try.func50, Try.ntmps50
  go_wp2
  go_ret
  exact ⟨ret_int (by omega), (Below.refl _ _).alloc (Nat.le_refl _) _⟩
theorem info55 : (Try.prog.info? 77).map (·.size) = some 4 := by kernel_rfl
theorem headOf_any (t p n : Nat) (h1 : t ≤ 255) (h3 : p ≤ 100) (h5 : n ≤ 100) (w : World) : Calls Try.prog 55 #[.int .i64 t, .int .i64 p, .int .i64 n] w
    (RetV (.agg #[.int .u8 t, .int .u8 p, .int .u8 n, .int .u8 ((max 2 (1 + p + n) : Nat) : Int)]) w) := by
  by_cases hc : 2 < 1 + p + n
  · have hm : max 2 (1 + p + n) = 1 + p + n := by omega
    rw [hm]
    have hc2 : (2 : Int) < 1 + (p : Int) + (n : Int) := by omega
    clear hm hc
    go_enter Try.func55, Try.ntmps55
    go_wp2
    refine bodyPost_ret (results_cell_row rfl _ _ w.heap.size 77 #[.int .u8 t, .int .u8 p, .int .u8 n, .int .u8 (1 + p + n)] (0, 0) _ rfl (alloc_at _ _) Try.underlying77 rfl info55) rfl ?_
    exact ⟨by push_cast; rfl, (Below.refl _ _).alloc (Nat.le_refl _) _⟩
  · have hm : max 2 (1 + p + n) = 2 := by omega
    rw [hm]
    have hc2 : ¬ (2 : Int) < 1 + (p : Int) + (n : Int) := by omega
    clear hm hc
    go_enter Try.func55, Try.ntmps55
    go_wp2
    refine bodyPost_ret (results_cell_row rfl _ _ w.heap.size 77 #[.int .u8 t, .int .u8 p, .int .u8 n, .int .u8 2] (0, 0) _ rfl (alloc_at _ _) Try.underlying77 rfl info55) rfl ?_
    exact ⟨rfl, (Below.refl _ _).alloc (Nat.le_refl _) _⟩
theorem new_any (n : Int) (h1 : 0 ≤ n) (h2 : n ≤ 1000000) (w : World) : Calls Try.prog 27 #[.int .i64 n] w
    fun e w' => e = .returned (.pointer (some ⟨w.heap.size, 0, none⟩)) ∧ w' = w.alloc (.cells #[.slice none 0 0, .int .i64 n] 75) := by
  go_enter Try.func27, Try.ntmps27
  go_wp2
  go_ret
  exact ⟨rfl, rfl⟩
theorem within_any (a n : Int) (w : World) (h1 : -9223372036854775808 ≤ a) (h2 : a ≤ 9223372036854775807) (h3 : 1 ≤ n) (h4 : n ≤ 4000000000) :
    Calls Try.prog 57 #[.int .i64 a, .int .i64 n] w fun e w' => e = .returned (.int .i64 (a % n)) ∧ w = w' := by
  have hr := Int.emod_nonneg a (show n ≠ 0 by omega)
  have hl := Int.emod_lt_of_pos a (show 0 < n by omega)
  by_cases h : 0 ≤ a
  · have ht := Int.tmod_eq_emod_of_nonneg (b := n) h
    go_enter Try.func57, Try.ntmps57
    go_wp2
    go_ret
    exact ⟨rfl, rfl⟩
  · by_cases hd : a % n = 0
    · have ht : a.tmod n = 0 := by rw [Int.tmod_eq_emod, if_pos (Or.inr (Int.dvd_of_emod_eq_zero hd))]; omega
      go_enter Try.func57, Try.ntmps57
      go_wp2
      go_ret
      exact ⟨ret_int (by omega), rfl⟩
    · have ht : a.tmod n = a % n - n := by
        rw [Int.tmod_eq_emod, if_neg]
        · omega
        · rintro (h' | h')
          · exact h h'
          · exact hd (Int.emod_eq_zero_of_dvd h')
      have ht2 : a % n - n < 0 := by omega
      clear hd
      go_enter Try.func57, Try.ntmps57
      go_wp2
      go_ret
      exact ⟨ret_int (by omega), rfl⟩
end Go.Proofs.Ytjecjlnkpbbanaa
