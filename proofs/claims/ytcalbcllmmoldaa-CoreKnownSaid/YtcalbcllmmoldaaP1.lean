/- Plain facts on blocks and rows; texts compared. -/
import Derived.Test.YtcalbcllmmoldaaA1
import Derived.Laws.Rows
import Derived.Laws.Externs
import Derived.Deep.RegionWith
import Derived.Lib.TrimByte
namespace Go.Proofs.Ytcalbcllmmoldaa
open Go.RowKit
set_option linter.unusedVariables false
set_option linter.unusedSimpArgs false
theorem info28 : (Try.prog.info? 28).map (·.size) = some 4 := by kernel_rfl
theorem alloc_at (w : World) (o : Obj) : (w.alloc o).heap[w.heap.size]? = some o := heap_alloc_new w o
theorem setRow_new (w : World) (z cs : Array Value) (T : TypeId) : (w.alloc (.cells z T)).setRow w.heap.size cs = w.alloc (.cells cs T) := by
  unfold World.setRow World.alloc
  simp only [World.mk.injEq, and_true]
  apply Array.ext
  · simp
  · intro k h1 h2
    simp only [Array.getElem_modify]
    split
    · rename_i hk; subst hk; simp
    · rename_i hk
      simp only [Array.getElem_push]
      split
      · rfl
      · rename_i h3
        simp at h1
        omega
section
variable {P : Program} {ops : Array Oper} {Q : Exit → Act → World → Prop} {a : Act} {w : World} {rest : List Oper} {o : Oper}
theorem wpList_wanted (hw : Region.wanted o (yielded ops a.tmps) = true) (h : ∀ K : Act → World → Prop, (∀ a w, wpList P ops Q rest a w → K a w) → o.wp P a w K Q) : wpList P ops Q (o :: rest) a w :=
  wpList_step fun K hK => by rw [if_pos hw]; exact h K hK
theorem wpList_load_wanted (hw : Region.wanted o (yielded ops a.tmps) = true) (ty : TypeId) (x : Operand) (ho : o.op = .load ty x)
    (g : Nat) (hx : a.eval x = .pointer (some ⟨g, 0, none⟩)) (t : TypeId) (cs : Array Value) (fr : Nat × Nat) (d : TypeDesc) (hg : w.heap[g]? = some (.cells cs t fr))
    (hu : P.underlying ty = some d) (hd : (match d with | .struct _ | .array _ _ => true | _ => false) = true) (hi : (P.info? ty).map (·.size) = some cs.size)
    (h : wpList P ops Q rest (a.put o.dst (.agg cs)) w) : wpList P ops Q (o :: rest) a w :=
  wpList_wanted hw fun _ hK => wp_load_row ty x ho g hx t cs fr d hg hu hd hi (hK _ _ h)
end
theorem row_below {w w' : World} (h : Below w.heap.size w w') {g : Nat} {c : Array Value} {T : TypeId} {fz : Nat × Nat} (hg : w.heap[g]? = some (.cells c T fz)) : w'.heap[g]? = some (.cells c T fz) := by
  rw [h.block g (Array.getElem?_eq_some_iff.1 hg).1]; exact hg
theorem below_setRow {b : Nat} {a w : World} (h : Below b a w) (g : Nat) (cs : Array Value) (hg : b ≤ g) : Below b a (w.setRow g cs) :=
  h.trans ⟨rfl, rfl, rfl, by simp, fun k hk => setRow_other w g k cs (by omega)⟩
/-- Texts as cells. -/
def tcells (l : List ByteArray) : Array Value := (l.map Value.string).toArray
theorem tcells_at (l : List ByteArray) (i : Nat) (hi : i < l.length) : (tcells l)[i]? = some (.string l[i]) := by
  unfold tcells
  rw [List.getElem?_toArray, List.getElem?_map, List.getElem?_eq_getElem hi]; rfl
theorem tcells_get (w : World) (g : Nat) (l : List ByteArray) (hg : w.heap[g]? = some (.cells (tcells l) 9 (0, 0))) (i : Nat) (hi : i < l.length) : w.cell? ⟨g, i, none⟩ = some (.string (l.getD i ⟨#[]⟩)) := by
  rw [Lib.cell_of_heap hg, tcells_at l i hi, List.getD_eq_getElem?_getD, List.getElem?_eq_getElem hi]; rfl
theorem str_app (a b : List UInt8) : (⟨a.toArray⟩ ++ ⟨b.toArray⟩ : ByteArray) = ⟨(a ++ b).toArray⟩ := by
  apply ByteArray.ext
  simp [ByteArray.data_append]
/-- Texts are one where their bytes are. -/
theorem str_eq {a b : ByteArray} : (a.toList == b.toList) = decide (a = b) := by
  rw [Lib.toList_data, Lib.toList_data]
  by_cases h : a = b
  · subst h; simp
  · have : ¬ a.data.toList = b.data.toList := fun e => h (ByteArray.ext (Array.toList_inj.1 e))
    rw [decide_eq_false h, beq_eq_false_iff_ne]; exact this
theorem str_eqL {a : ByteArray} (l : List UInt8) : (a.toList == l) = decide (a = ⟨l.toArray⟩) := by
  have : l = (⟨l.toArray⟩ : ByteArray).toList := by rw [Lib.toList_data]
  conv => lhs; rw [this]
  exact str_eq
end Go.Proofs.Ytcalbcllmmoldaa
