/- The document's reader: its state; what does not count; what may stand in a name. -/
import Derived.Test.YtahdiknkcgnieaaDoorZA
import Derived.Test.YtahdiknkcgnieaaDoorZB
namespace Go.Proofs.YtahdiknkcgnieaaDoor
open Go.RowKit Go.BigM
set_option linter.unusedVariables false
set_option linter.unusedSimpArgs false
/-- The reader's state lies at g: the text, the place, what is open, what is done. -/
def Rs3 (w : World) (g : Nat) (s : ByteArray) (p : Nat) (ov dv : Value) : Prop := w.heap[g]? = some (.cells #[.string s, .int .i64 (p : Int), ov, dv] 71 (0, 0))
theorem Rs3.lt {w : World} {g p : Nat} {s : ByteArray} {ov dv : Value} (h : Rs3 w g s p ov dv) : g < w.heap.size := (Array.getElem?_eq_some_iff.1 h).1
theorem Rs3.cells {w : World} {g p : Nat} {s : ByteArray} {ov dv : Value} (h : Rs3 w g s p ov dv) : w.cell? ⟨g, 0, none⟩ = some (.string s) ∧ w.cell? ⟨g, 1, none⟩ = some (.int .i64 (p : Int)) ∧ w.cell? ⟨g, 2, none⟩ = some ov ∧ w.cell? ⟨g, 3, none⟩ = some dv := by
  unfold Rs3 at h
  refine ⟨?_, ?_, ?_, ?_⟩ <;> (rw [Lib.cell_of_heap h]; rfl)
/-- Only the block g has turned; no block came. -/
structure Only (g : Nat) (w w' : World) : Prop where
  os : w'.os = w.os
  tape : w'.tape = w.tape
  output : w'.output = w.output
  size : w'.heap.size = w.heap.size
  block : ∀ k, k ≠ g → w'.heap[k]? = w.heap[k]?
theorem Only.refl (g : Nat) (w : World) : Only g w w := ⟨rfl, rfl, rfl, rfl, fun _ _ => rfl⟩
theorem Only.trans {g : Nat} {a b c : World} (h : Only g a b) (k : Only g b c) : Only g a c := ⟨k.os.trans h.os, k.tape.trans h.tape, k.output.trans h.output, k.size.trans h.size, fun x hx => (k.block x hx).trans (h.block x hx)⟩
theorem Only.set (g o : Nat) (v : Value) (w : World) : Only g w (w.setCell ⟨g, o, none⟩ v) := ⟨rfl, rfl, rfl, by simp [World.setCell], fun k hk => Below.heap_setCell w _ v k (fun e => hk e)⟩
/-- The place turns. -/
theorem Rs3.setP {w : World} {g p : Nat} {s : ByteArray} {ov dv : Value} (h : Rs3 w g s p ov dv) (q : Nat) : Rs3 (w.setCell ⟨g, 1, none⟩ (.int .i64 (q : Int))) g s q ov dv := by
  have := heap_setCell_same w g 1 _ 71 (.int .i64 (q : Int)) h
  unfold Rs3; rw [this]; rfl
theorem gap_blank {c : UInt8} (l : List UInt8) (h : c = 32 ∨ c = 9 ∨ c = 10) : gapOf false (c :: l) = 1 + gapOf false l := by
  rcases h with rfl | rfl | rfl <;> simp [gapOf]
theorem gap_semi (l : List UInt8) : gapOf true (59 :: l) = gapOf false (59 :: l) := by simp [gapOf]
theorem gap_in {c : UInt8} (l : List UInt8) (h : c ≠ 10) : gapOf true (c :: l) = 1 + gapOf true l := by
  have : (c != 10) = true := by simpa using h
  simp [gapOf, this]
theorem gap_out (l : List UInt8) : gapOf true (10 :: l) = gapOf false (10 :: l) := by simp [gapOf]
theorem gap_stop {c : UInt8} (l : List UInt8) (h : ¬ (c = 32 ∨ c = 9 ∨ c = 10)) (h2 : c ≠ 59) : gapOf false (c :: l) = 0 := by
  have h3 : (c == 59) = false := by simpa using h2
  have h4 : ([9, 10, 32] : List UInt8).contains c = false := by
    simp only [List.contains_cons, List.contains_nil, Bool.or_false, Bool.or_eq_false_iff, beq_eq_false_iff_ne, ne_eq]
    exact ⟨fun e => h (.inr (.inl e)), fun e => h (.inr (.inr e)), fun e => h (.inl e)⟩
  unfold gapOf
  rw [h3, h4]
  rfl
def lset : List UInt8 := [33, 63, 42, 60, 62, 61, 43, 45, 47, 46, 95]
theorem u8_all {P : UInt8 → Prop} (h : ∀ n : Fin 256, P (UInt8.ofNat n.1)) (c : UInt8) : P c := by
  have h1 := h ⟨c.toNat, c.toNat_lt⟩
  have h2 : UInt8.ofNat c.toNat = c := by simp
  rw [h2] at h1
  exact h1
theorem sset_parts : ∀ c : UInt8, sset.contains c = ((decide (97 ≤ (c.toNat : Int)) && decide ((c.toNat : Int) ≤ 122)) || (decide (48 ≤ (c.toNat : Int)) && decide ((c.toNat : Int) ≤ 57)) || lset.contains c) := u8_all (by decide +kernel)
end Go.Proofs.YtahdiknkcgnieaaDoor
