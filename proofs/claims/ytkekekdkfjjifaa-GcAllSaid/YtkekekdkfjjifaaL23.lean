/- Rows of truths; a row that goes on. -/
import Derived.Test.YtkekekdkfjjifaaL22
import Derived.Test.YtkekekdkfjjifaaL21
namespace Go.Proofs.Ytkekekdkfjjifaa
open Go Go.RowKit
set_option linter.unusedVariables false
set_option linter.unusedSimpArgs false
def bvals (l : List Bool) : Array Value := (l.map Value.bool).toArray
def BRw (w : World) (g : Nat) (l : List Bool) : Prop := w.heap[g]? = some (.cells (bvals l) 4 (0, 0))
theorem BRw.put {w : World} {g : Nat} {l : List Bool} (h : BRw w g l) (j : Nat) (v : Bool) : BRw (w.setCell ⟨g, j, none⟩ (.bool v)) g (l.set j v) := by
  have := heap_setCell_same w g j _ 4 (.bool v) h
  have e : (bvals l).setIfInBounds j (.bool v) = bvals (l.set j v) := by unfold bvals; rw [List.setIfInBounds_toArray, List.map_set]
  rw [e] at this
  exact this
theorem BRw.cell? {w : World} {g : Nat} {l : List Bool} (h : BRw w g l) {j : Nat} {v : Bool} (hj : l[j]? = some v) : w.cell? ⟨g, j, none⟩ = some (.bool v) := by
  rw [cell_of_row w g j _ _ _ h]
  unfold bvals
  rw [List.getElem?_toArray, List.getElem?_map, hj]; rfl
theorem BRw.frz {w : World} {g : Nat} {l : List Bool} (h : BRw w g l) (j : Nat) : w.frozen? ⟨g, j, none⟩ = false := frozen_of_row w g j _ 4 h
theorem BRw.lt {w : World} {g : Nat} {l : List Bool} (h : BRw w g l) : g < w.heap.size := (Array.getElem?_eq_some_iff.1 h).1
theorem BRw.fr' {F : Nat → Prop} {w w' : World} {g : Nat} {l : List Bool} (h : BRw w g l) (hf : Fr F w w') (h1 : ¬ F g) : BRw w' g l := (hf.block _ h.lt h1).trans h
theorem infoB4 : (Try.prog.info? 4).map (fun i => (i.zero, i.size, i.bytes)) = some (some (.bool false), 1, 1) := by kernel_rfl
theorem made_bvals (n : Nat) : madeCells (Value.bool false).cells n = bvals (List.replicate n false) := by
  apply Array.ext
  · rw [size_madeCells]; simp [bvals, Value.cells]
  · intro i h1 h2
    simp [madeCells, bvals, Value.cells, Nat.mod_one]
theorem run_make_bools (n : Nat) (hn : n ≤ 1000000) (w : World) :
    (Instr.makeSlice 42 (.int .i64 n) (.int .i64 n)).run Try.prog w = .ok (.slice (some ⟨w.heap.size, 0, none⟩) n n) (w.alloc (.cells (bvals (List.replicate n false)) 4)) := by
  obtain ⟨i, hi, hz, h1, h2⟩ := info_parts infoB4
  have := run_make (P := Try.prog) w 42 4 i (.bool false) Try.underlying42 hi hz .i64 .i64 n n (by omega) (Int.le_refl _) (by rw [h2]; omega) (by omega)
  rw [h1, Nat.mul_one, made_bvals, Int.toNat_natCast] at this
  exact this
theorem none_made3 {W : World} {B : Nat} (hB : B ≤ W.heap.size) : (W.alloc (.cells #[] 3)).ownsRow B 3 1 (.slice (some ⟨W.heap.size, 0, none⟩) 0 0) 0 [] := own_less (none_made W) hB
end Go.Proofs.Ytkekekdkfjjifaa
