/- Plain, at data without parts. -/
import Derived.Test.YtlkpddokmibkiaaK1
import Derived.Laws.Rows
namespace Go.Proofs.Ytlkpddokmibkiaa
open Go.RowKit
set_option linter.unusedVariables false
set_option linter.unusedSimpArgs false

/-- It returns this datum's cells; what was there stands. -/
def RetCs (cs : Array Value) (w : World) (e : Ending) (w' : World) : Prop := e = .returned (.agg cs) ∧ Below w.heap.size w w'

theorem below_setRow {b : Nat} {a w : World} (h : Below b a w) (g : Nat) (cs : Array Value) (hg : b ≤ g) : Below b a (w.setRow g cs) :=
  h.trans ⟨rfl, rfl, rfl, by simp, fun k hk => setRow_other w g k cs (by omega)⟩

set_option maxHeartbeats 2000000 in
theorem plain_leaf (k : Int) (t : ByteArray) (mv : Value) (p : Int) (hm : mv.oneCell' = true) (w : World) :
    Calls Try.prog 15 #[.agg #[.int .i64 k, .string t, mv, .slice none 0 0, .int .i64 p]] w (RetCs #[.int .i64 k, .string t, .slice none 0 0, .slice none 0 0, .int .i64 p] w) := by
  go_enter Try.func15, Try.ntmps15
  go_wp2_with fail
  have r1 := (alloc_old' (w.alloc (.cells #[.int .i64 k, .string t, .slice none 0 0, .slice none 0 0, .int .i64 p] 28)) (.cells #[.int .i64 0, .string ⟨#[]⟩, .slice none 0 0, .slice none 0 0, .int .i64 0] 28) w.heap.size (by simp)).trans (alloc_at w (.cells #[.int .i64 k, .string t, .slice none 0 0, .slice none 0 0, .int .i64 p] 28))
  have r2 := alloc_at (w.alloc (.cells #[.int .i64 k, .string t, .slice none 0 0, .slice none 0 0, .int .i64 p] 28)) (.cells #[.int .i64 0, .string ⟨#[]⟩, .slice none 0 0, .slice none 0 0, .int .i64 0] 28)
  have hs : (w.alloc (.cells #[.int .i64 k, .string t, .slice none 0 0, .slice none 0 0, .int .i64 p] 28)).heap.size = w.heap.size + 1 := by simp
  rw [hs] at r2
  have HB := Lib.hid (((Below.refl w.heap.size w).alloc (Nat.le_refl _) (.cells #[.int .i64 k, .string t, .slice none 0 0, .slice none 0 0, .int .i64 p] 28)).alloc (by simp) (.cells #[.int .i64 0, .string ⟨#[]⟩, .slice none 0 0, .slice none 0 0, .int .i64 0] 28))
  generalize (w.alloc (.cells #[.int .i64 k, .string t, .slice none 0 0, .slice none 0 0, .int .i64 p] 28)).alloc (.cells #[.int .i64 0, .string ⟨#[]⟩, .slice none 0 0, .slice none 0 0, .int .i64 0] 28) = W at r1 r2 HB ⊢
  have R1 := Lib.hid r1
  have R2 := Lib.hid r2
  clear r1 r2 hs
  go_loopw [19] (fun iv wr => iv = .int .i64 0 ∧ wr = W) (fun _ _ => 0)
  case atStart => exact ⟨rfl, rfl⟩
  case round =>
    obtain ⟨rfl, rfl⟩ := hrel
    go_wp2_with (first | (refine wpList_load_row rfl 28 _ rfl w.heap.size rfl 28 #[.int .i64 k, .string t, .slice none 0 0, .slice none 0 0, .int .i64 p] (0, 0) _ R1.out Try.underlying28 rfl info28 ?_) | (refine wpList_store_row rfl 28 _ _ rfl (w.heap.size + 1) #[.int .i64 k, .string t, .slice none 0 0, .slice none 0 0, .int .i64 p] rfl rfl 28 Z5 R2.out info28 rfl (by simp [Value.oneCell']) ?_))
    refine bodyPost_ret (results_cell_row rfl _ _ (w.heap.size + 1) 28 #[.int .i64 k, .string t, .slice none 0 0, .slice none 0 0, .int .i64 p] (0, 0) _ rfl (setRow_heap wr _ _ _ 28 _ R2.out) Try.underlying28 rfl info28) rfl ?_
    exact ⟨rfl, below_setRow HB.out _ _ (by omega)⟩
end Go.Proofs.Ytlkpddokmibkiaa
