/- put: its walk. -/
import Derived.Test.YtkjcbaikebdmmaaDoorJ4
namespace Go.Proofs.YtkjcbaikebdmmaaDoor
open Go.RowKit
set_option linter.unusedVariables false
set_option linter.unusedSimpArgs false
theorem nblk5 (w : World) (a : Addr) (v : Value) : (w.setCell a v).heap.size = w.heap.size := by simp [World.setCell]
/-- The box of the part that is put stands. -/
def Boxed (b : Nat) (C : Array Value) (w : World) : Prop := w.heap[b]? = some (.cells C 40 (0, 0))
theorem there_of_row {w : World} {g o n : Nat} {arr : Array Value} {T : TypeId} (h : w.heap[g]? = some (.cells arr T (0, 0))) (hs : o + n ≤ arr.size) : w.there g o n := fun j hj => by
  refine ⟨?_, frozen_of_row w g (o + j) arr T h⟩
  rw [Lib.cell_of_heap h]
  have : o + j < arr.size := by omega
  simp [this]
theorem put_step {S : Nat → Prop} {B g m n : Nat} {arr : Array Value} {v : Value} {ds : List Dt} {d : Dt} {w WD : World} {k : Int} {t : ByteArray} {mv lv : Value} {p : Int} (hB : B ≤ w.heap.size)
    (hg : w.heap[g]? = some (.cells arr 55 (0, 0))) (hv : arr[m * 6 + 3]? = some v) (hS : ∀ x, S x → B ≤ x ∧ v.ownBlock ≠ some x) (hown : OwnS S B w v ds) (hn : ds.length = n) (hgB : v.ownBlock ≠ some g) (hd : Dt.At S w d #[.int .i64 k, .string t, mv, lv, .int .i64 p])
    (hb : Below w.heap.size w WD) (hs : WD.heap.size = w.heap.size + 1) (hx : Boxed w.heap.size #[.int .i64 k, .string t, mv, lv, .int .i64 p] WD) :
    ∃ xs, WD.cell? ⟨g, m * 6 + 3, none⟩ = some v ∧ (WD.alloc (.cells #[.int .i64 0, .string ⟨#[]⟩, .slice none 0 0, .slice none 0 0, .int .i64 0] 40)).cell? ⟨g, m * 6 + 3, none⟩ = some v ∧ Boxed w.heap.size #[.int .i64 k, .string t, mv, lv, .int .i64 p] (WD.alloc (.cells #[.int .i64 0, .string ⟨#[]⟩, .slice none 0 0, .slice none 0 0, .int .i64 0] 40)) ∧
      (WD.alloc (.cells #[.int .i64 0, .string ⟨#[]⟩, .slice none 0 0, .slice none 0 0, .int .i64 0] 40)).ownsRow B 40 5 v n xs ∧ B ≤ (WD.alloc (.cells #[.int .i64 0, .string ⟨#[]⟩, .slice none 0 0, .slice none 0 0, .int .i64 0] 40)).heap.size ∧
      ∀ v' w9, w9.ownsRow B 40 5 v' (n + 1) (xs ++ [.int .i64 0, .string ⟨#[]⟩, .slice none 0 0, .slice none 0 0, .int .i64 0]) → (WD.alloc (.cells #[.int .i64 0, .string ⟨#[]⟩, .slice none 0 0, .slice none 0 0, .int .i64 0] 40)).grownBy w9 v.ownBlock → (v'.ownBlock = v.ownBlock ∨ v'.ownBlock = some (WD.alloc (.cells #[.int .i64 0, .string ⟨#[]⟩, .slice none 0 0, .slice none 0 0, .int .i64 0] 40)).heap.size) →
      ∃ g' c', v' = .slice (some ⟨g', 0, none⟩) (n + 1) c' ∧ n + 1 ≤ c' ∧ Boxed w.heap.size #[.int .i64 k, .string t, mv, lv, .int .i64 p] w9 ∧
        (w9.there g' (n * 5) 5 ∧ Boxed w.heap.size #[.int .i64 k, .string t, mv, lv, .int .i64 p] (w9.setCells g' (n * 5) [.int .i64 k, .string t, mv, lv, .int .i64 p]) ∧
          (w9.setCells g' (n * 5) [.int .i64 k, .string t, mv, lv, .int .i64 p]).cell? ⟨g, m * 6 + 3, none⟩ = some v ∧ (w9.setCells g' (n * 5) [.int .i64 k, .string t, mv, lv, .int .i64 p]).frozen? ⟨g, m * 6 + 3, none⟩ = false ∧
          Boxed w.heap.size #[.int .i64 k, .string t, mv, lv, .int .i64 p] ((w9.setCells g' (n * 5) [.int .i64 k, .string t, mv, lv, .int .i64 p]).setCell ⟨g, m * 6 + 3, none⟩ v') ∧
          PutDone S B g (m * 6 + 3) arr v (ds ++ [d]) w ((w9.setCells g' (n * 5) [.int .i64 k, .string t, mv, lv, .int .i64 p]).setCell ⟨g, m * 6 + 3, none⟩ v')) ∧
        (w9.cell? ⟨g, m * 6 + 3, none⟩ = some v ∧ w9.frozen? ⟨g, m * 6 + 3, none⟩ = false ∧ Boxed w.heap.size #[.int .i64 k, .string t, mv, lv, .int .i64 p] (w9.setCell ⟨g, m * 6 + 3, none⟩ v') ∧
          (w9.setCell ⟨g, m * 6 + 3, none⟩ v').there g' (n * 5) 5 ∧ Boxed w.heap.size #[.int .i64 k, .string t, mv, lv, .int .i64 p] ((w9.setCell ⟨g, m * 6 + 3, none⟩ v').setCells g' (n * 5) [.int .i64 k, .string t, mv, lv, .int .i64 p]) ∧
          PutDone S B g (m * 6 + 3) arr v (ds ++ [d]) w ((w9.setCell ⟨g, m * 6 + 3, none⟩ v').setCells g' (n * 5) [.int .i64 k, .string t, mv, lv, .int .i64 p])) := by
  have hgl : g < w.heap.size := (Array.getElem?_eq_some_iff.1 hg).1
  have hba : Below w.heap.size w (WD.alloc (.cells #[.int .i64 0, .string ⟨#[]⟩, .slice none 0 0, .slice none 0 0, .int .i64 0] 40)) := hb.alloc (by omega) _
  have hz : (WD.alloc (.cells #[.int .i64 0, .string ⟨#[]⟩, .slice none 0 0, .slice none 0 0, .int .i64 0] 40)).heap.size = w.heap.size + 1 + 1 := by simp [hs]
  have gD : WD.heap[g]? = some (.cells arr 55 (0, 0)) := by rw [hb.block _ hgl]; exact hg
  have gA : (WD.alloc (.cells #[.int .i64 0, .string ⟨#[]⟩, .slice none 0 0, .slice none 0 0, .int .i64 0] 40)).heap[g]? = some (.cells arr 55 (0, 0)) := by rw [hba.block _ hgl]; exact hg
  have xA : Boxed w.heap.size #[.int .i64 k, .string t, mv, lv, .int .i64 p] (WD.alloc (.cells #[.int .i64 0, .string ⟨#[]⟩, .slice none 0 0, .slice none 0 0, .int .i64 0] 40)) := (Lib.alloc_old WD (.cells #[.int .i64 0, .string ⟨#[]⟩, .slice none 0 0, .slice none 0 0, .int .i64 0] 40) w.heap.size (by omega)).trans hx
  obtain ⟨xs, hown8, hx8⟩ := OwnS.below hown hba
  rw [hn] at hown8
  have hvl : ∀ x, v.ownBlock = some x → B ≤ x ∧ x < w.heap.size := fun x hx => hown.lt hx
  refine ⟨xs, by rw [Lib.cell_of_heap gD]; exact hv, by rw [Lib.cell_of_heap gA]; exact hv, xA, hown8, by rw [hz]; omega, fun v' w9 h9 hg9 hv9 => ?_⟩
  have h9' := h9
  rcases h9.2 with ⟨e, hz0⟩ | ⟨g', c', cur, rfl, hbg, hgg, hnc, hcm, hcs, ht⟩
  · exact absurd hz0 (by omega)
  have e' : (Value.slice (some ⟨g', 0, none⟩) (n + 1) c').ownBlock = some g' := rfl
  have hg'g : g' ≠ g := by
    rintro rfl
    rw [e'] at hv9
    rcases hv9 with e | e
    · exact hgB e.symm
    · injection e with e; omega
  have hg'b : g' ≠ w.heap.size := by
    rintro rfl
    rw [e'] at hv9
    rcases hv9 with e | e
    · have := (hvl _ e.symm).2; omega
    · injection e with e; omega
  have g9 : w9.heap[g]? = some (.cells arr 55 (0, 0)) := by rw [hg9.block g (by omega) (fun e => hgB e.symm)]; exact gA
  have x9 : Boxed w.heap.size #[.int .i64 k, .string t, mv, lv, .int .i64 p] w9 := (hg9.block w.heap.size (by omega) (fun e => by have := (hvl _ e.symm).2; omega)).trans xA
  have hsz : n * 5 + 5 ≤ cur.size := by rw [hcs]; omega
  have th9 : w9.there g' (n * 5) 5 := there_of_row hgg hsz
  have gS : (w9.setCells g' (n * 5) [.int .i64 k, .string t, mv, lv, .int .i64 p]).heap[g]? = some (.cells arr 55 (0, 0)) := (setCells5_other w9 g' (n * 5) g _ _ _ _ _ hg'g.symm).trans g9
  have xS : Boxed w.heap.size #[.int .i64 k, .string t, mv, lv, .int .i64 p] (w9.setCells g' (n * 5) [.int .i64 k, .string t, mv, lv, .int .i64 p]) := (setCells5_other w9 g' (n * 5) _ _ _ _ _ _ hg'b.symm).trans x9
  have oT : ∀ (W : World) (x : Nat), x ≠ g → (W.setCell ⟨g, m * 6 + 3, none⟩ (.slice (some ⟨g', 0, none⟩) (n + 1) c')).heap[x]? = W.heap[x]? := fun W x hx => heap_setCell_other W ⟨g, m * 6 + 3, none⟩ x _ hx
  have gT : (w9.setCell ⟨g, m * 6 + 3, none⟩ (.slice (some ⟨g', 0, none⟩) (n + 1) c')).heap[g']? = some (.cells cur 40 (0, 0)) := (oT w9 g' hg'g).trans hgg
  have done := fun W => put_done (W := W) hB hg hS hown hn hd hba (by omega) hown8 h9' hg9 hv9 hgg (o := m * 6 + 3)
  refine ⟨g', c', rfl, hnc, x9, ⟨th9, xS, by rw [Lib.cell_of_heap gS]; exact hv, frozen_of_row _ _ _ _ _ gS, (oT _ _ (by omega)).trans xS, ?_⟩, ⟨by rw [Lib.cell_of_heap g9]; exact hv, frozen_of_row _ _ _ _ _ g9, (oT _ _ (by omega)).trans x9, there_of_row gT hsz, (setCells5_other _ g' (n * 5) _ _ _ _ _ _ hg'b.symm).trans ((oT _ _ (by omega)).trans x9), ?_⟩⟩
  · refine done _ ((oT _ _ hg'g).trans (setCells5 w9 g' (n * 5) cur 40 _ _ _ _ _ hgg)) (heap_setCell_same _ g (m * 6 + 3) _ 55 _ gS) (fun x h1 h2 => (oT _ _ h1).trans (setCells5_other w9 g' (n * 5) x _ _ _ _ _ h2)) ?_
    have hq := (below_setCells5 (Below.refl 0 w9) g' (n * 5) (.int .i64 k) (.string t) mv lv (.int .i64 p) (Nat.zero_le _)).setCell (p := ⟨g, m * 6 + 3, none⟩) (Nat.zero_le _) (.slice (some ⟨g', 0, none⟩) (n + 1) c')
    exact ⟨hq.os, hq.tape, hq.output, by simp only [World.setCells, nblk5]⟩
  · refine done _ (setCells5 _ g' (n * 5) cur 40 _ _ _ _ _ gT) ((setCells5_other _ g' (n * 5) g _ _ _ _ _ hg'g.symm).trans (heap_setCell_same _ g (m * 6 + 3) _ 55 _ g9)) (fun x h1 h2 => (setCells5_other _ g' (n * 5) x _ _ _ _ _ h2).trans (oT _ _ h1)) ?_
    have hq := below_setCells5 ((Below.refl 0 w9).setCell (p := ⟨g, m * 6 + 3, none⟩) (Nat.zero_le _) (.slice (some ⟨g', 0, none⟩) (n + 1) c')) g' (n * 5) (.int .i64 k) (.string t) mv lv (.int .i64 p) (Nat.zero_le _)
    exact ⟨hq.os, hq.tape, hq.output, by simp only [World.setCells, nblk5]⟩
end Go.Proofs.YtkjcbaikebdmmaaDoor
