/- Numbers (a sign and limbs) as cells of a block; the operations on whole rows as arms of a walk. -/
import Derived.Test.YtebadokchhnmfaaDoorS1
namespace Go.Proofs.YtebadokchhnmfaaDoor
open Go.RowKit Go.BigM
set_option linter.unusedVariables false

/-- A number as cells. -/
def Nm (b : Bool) (l : List Nat) : Array Value := (Value.bool b :: l.map fun (n : Nat) => Value.int .u32 (n : Int)).toArray
theorem Nm_size (b : Bool) (l : List Nat) : (Nm b l).size = l.length + 1 := by simp [Nm]
theorem Nm_sign (b : Bool) (l : List Nat) : (Nm b l)[0]? = some (.bool b) := by simp [Nm]
theorem Nm_get (b : Bool) (l : List Nat) (j : Nat) (h : j < l.length) : (Nm b l)[1 + j]? = some (.int .u32 (lg l j : Nat)) := by
  have := U_get l j h
  unfold U at this
  unfold Nm
  rw [Nat.add_comm, List.getElem?_toArray, List.getElem?_cons_succ]
  rw [List.getElem?_toArray] at this
  exact this
theorem Nm_set (b : Bool) (l : List Nat) (j n : Nat) : (Nm b l).setIfInBounds (1 + j) (.int .u32 n) = Nm b (l.set j n) := by
  unfold Nm
  rw [List.setIfInBounds_toArray, Nat.add_comm, List.set_cons_succ, List.map_set]
theorem Nm_one (b : Bool) (l : List Nat) : (Nm b l).all (·.oneCell') = true := by
  unfold Nm
  simp [Value.oneCell']
theorem Nm_zeros : (#[Value.bool false, Value.int IntKind.u32 0, Value.int IntKind.u32 0, Value.int IntKind.u32 0, Value.int IntKind.u32 0, Value.int IntKind.u32 0, Value.int IntKind.u32 0, Value.int IntKind.u32 0, Value.int IntKind.u32 0, Value.int IntKind.u32 0, Value.int IntKind.u32 0, Value.int IntKind.u32 0, Value.int IntKind.u32 0, Value.int IntKind.u32 0, Value.int IntKind.u32 0, Value.int IntKind.u32 0, Value.int IntKind.u32 0, Value.int IntKind.u32 0, Value.int IntKind.u32 0, Value.int IntKind.u32 0, Value.int IntKind.u32 0, Value.int IntKind.u32 0, Value.int IntKind.u32 0, Value.int IntKind.u32 0, Value.int IntKind.u32 0, Value.int IntKind.u32 0, Value.int IntKind.u32 0, Value.int IntKind.u32 0, Value.int IntKind.u32 0, Value.int IntKind.u32 0, Value.int IntKind.u32 0, Value.int IntKind.u32 0, Value.int IntKind.u32 0, Value.int IntKind.u32 0, Value.int IntKind.u32 0, Value.int IntKind.u32 0, Value.int IntKind.u32 0, Value.int IntKind.u32 0, Value.int IntKind.u32 0, Value.int IntKind.u32 0, Value.int IntKind.u32 0, Value.int IntKind.u32 0, Value.int IntKind.u32 0, Value.int IntKind.u32 0, Value.int IntKind.u32 0, Value.int IntKind.u32 0, Value.int IntKind.u32 0] : Array Value) = Nm false Z46 := rfl
theorem info49 : (Tryd.prog.info? 49).map (·.size) = some 47 := by kernel_rfl
theorem built_sign (b : Bool) : Tryd.prog.built 49 [(0, .bool b)] = some (Nm b Z46) := by cases b <;> kernel_rfl
theorem built_none : Tryd.prog.built 49 [] = some (Nm false Z46) := by kernel_rfl

/-- A block that is a number, not frozen. -/
def NRow (w : World) (g : Nat) (b : Bool) (l : List Nat) : Prop := w.heap[g]? = some (.cells (Nm b l) 49 (0, 0))
theorem NRow.sign {w : World} {g : Nat} {b : Bool} {l : List Nat} (h : NRow w g b l) : w.cell? ⟨g, 0, none⟩ = some (.bool b) := by rw [cell_of_row w g 0 _ _ _ h, Nm_sign]
theorem NRow.cells {w : World} {g : Nat} {b : Bool} {l : List Nat} (h : NRow w g b l) (n : Nat) (hn : n ≤ l.length) : ∀ j, j < n → w.cell? ⟨g, 1 + j, none⟩ = some (.int .u32 (lg l j : Nat)) := by
  intro j hj; rw [cell_of_row w g (1 + j) _ _ _ h, Nm_get b l j (by omega)]
theorem NRow.free {w : World} {g : Nat} {b : Bool} {l : List Nat} (h : NRow w g b l) (j : Nat) : w.frozen? ⟨g, j, none⟩ = false := frozen_of_row w g j _ _ h
theorem NRow.setSet {w : World} {g : Nat} {b : Bool} {l : List Nat} (h : NRow w g b l) (l' : List Nat) (j n : Nat) : (w.setRow g (Nm b l')).setCell ⟨g, 1 + j, none⟩ (.int .u32 n) = w.setRow g (Nm b (l'.set j n)) := by
  rw [setCell_eq_setRow _ g (1 + j) _ _ _ _ (setRow_heap w g _ _ _ _ h), setRow_setRow, Nm_set]
theorem NRow.set {w : World} {g : Nat} {b : Bool} {l : List Nat} (h : NRow w g b l) (b' : Bool) (l' : List Nat) : NRow (w.setRow g (Nm b' l')) g b' l' := setRow_heap w g _ _ _ _ h
theorem NRow.self {w : World} {g : Nat} {b : Bool} {l : List Nat} (h : NRow w g b l) : w.setRow g (Nm b l) = w := setRow_self w g _ _ _ h
theorem NRow.other {w : World} {g h : Nat} {b : Bool} {l : List Nat} (k : NRow w g b l) (cs : Array Value) (hne : g ≠ h) : NRow (w.setRow h cs) g b l := by
  unfold NRow at *
  rw [setRow_other w h g cs hne]; exact k
theorem NRow.alloc {w : World} {g : Nat} {b : Bool} {l : List Nat} (h : NRow w g b l) (o : Obj) : NRow (w.alloc o) g b l := by
  unfold NRow at *
  rw [Below.heap_alloc w o g ((Array.getElem?_eq_some_iff.1 h).1)]; exact h
theorem alloc_get (w : World) (o : Obj) (g : Nat) (hg : g = w.heap.size) : (w.alloc o).heap[g]? = some o := by subst hg; show (w.heap.push _)[w.heap.size]? = _; simp
theorem NRow.new (w : World) (b : Bool) (l : List Nat) (g : Nat) (hg : g = w.heap.size) : NRow (w.alloc (.cells (Nm b l) 49)) g b l := alloc_get w _ g hg
theorem NRow.below {w w' : World} {g n : Nat} {b : Bool} {l : List Nat} (k : NRow w g b l) (hb : Below n w w') (hg : g < n) : NRow w' g b l := by
  unfold NRow at *
  rw [hb.block g hg]; exact k

section
variable {P : Program}
theorem wp_build_to {o : Oper} {a : Act} {w : World} {K : Act → World → Prop} {Q : Exit → Act → World → Prop} (t : TypeId) (parts : Array (Nat × Operand)) (ho : o.op = .build t parts)
    (l : List (Nat × Value)) (hl : (parts.map fun (i, x) => (i, a.eval x)).toList = l) (cells : Array Value) (hf : P.built t l = some cells)
    (h : K (a.put o.dst (.agg cells)) w) : o.wp P a w K Q :=
  wp_build t parts ho (by rw [hl, hf]; rfl) (by rw [hl, hf]; exact h)
/-- A struct that is built, its parts and its cells told. -/
theorem wpList_build_to {ops : Array Oper} {rest : List Oper} {o : Oper} {a : Act} {w : World} {Q : Exit → Act → World → Prop} (hg : o.guard = none) (t : TypeId) (parts : Array (Nat × Operand)) (ho : o.op = .build t parts)
    (l : List (Nat × Value)) (hl : (parts.map fun (i, x) => (i, a.eval x)).toList = l) (cells : Array Value) (hf : P.built t l = some cells)
    (h : wpList P ops Q rest (a.put o.dst (.agg cells)) w) : wpList P ops Q (o :: rest) a w :=
  wpList_build hg t parts ho (by rw [hl, hf]; rfl) (by rw [hl, hf]; exact h)
end
end Go.Proofs.YtebadokchhnmfaaDoor
