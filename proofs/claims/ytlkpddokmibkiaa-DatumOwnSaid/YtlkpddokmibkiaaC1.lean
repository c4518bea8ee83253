/- Functions that make a datum out of a datum, part by part: the loop. -/
import Derived.Test.YtlkpddokmibkiaaN2
import Derived.Test.YtlkpddokmibkiaaS1
namespace Go.Proofs.Ytlkpddokmibkiaa
open Go.RowKit
set_option linter.unusedVariables false
set_option linter.unusedSimpArgs false

theorem Hole.below {B g o : Nat} {a b c : World} (h : Hole B g o a b) (k : Below B b c) : Hole B g o a c := h.but (But.of k)
/-- So many parts are made; the new datum lies in block ob. -/
def LInv3 (fs : List Dt → List Dt) (l : List Dt) (ob : Nat) (k : Int) (t : ByteArray) (v : Value) (q : Int) (W5 : World) (iv : Value) (wr : World) : Prop :=
  ∃ (j : Nat) (v2 : Value), j ≤ l.length ∧ iv = .int .i64 j ∧ wr.heap[ob]? = some (.cells #[.int .i64 k, .string t, v, v2, .int .i64 q] 28 (0, 0)) ∧ OwnD W5.heap.size wr v2 (fs (l.take j)) ∧ Hole W5.heap.size ob ob W5 wr
theorem part_more3 {fs : List Dt → List Dt} {f : Dt → Dt} {l : List Dt} {ob : Nat} {k : Int} {t : ByteArray} {v : Value} {q : Int} {W5 : World} {j : Nat} {v2 : Value} {wr : World} (hlt : j < l.length) (hl1 : l.length ≤ 1000000) (hs5 : ob < W5.heap.size)
    (hfl : (fs (l.take j)).length = j) (hfs : fs (l.take (j + 1)) = fs (l.take j) ++ [f l[j]])
    (ho : wr.heap[ob]? = some (.cells #[.int .i64 k, .string t, v, v2, .int .i64 q] 28 (0, 0))) (hown : OwnD W5.heap.size wr v2 (fs (l.take j))) (hh : Hole W5.heap.size ob ob W5 wr)
    {WD w7 : World} (hbd : Below wr.heap.size wr WD) (hsd : WD.heap.size = wr.heap.size) {cs : Array Value} (hat : Dt.At (fun b => WD.heap.size ≤ b) w7 (f l[j]) cs) (hb : Below WD.heap.size WD w7) (h5 : cs.size = 5) :
    ∃ xs, (w7.alloc (.cells cs 28)).ownsRow W5.heap.size 28 5 v2 j xs ∧ W5.heap.size ≤ (w7.alloc (.cells cs 28)).heap.size ∧ But W5.heap.size ob wr w7 ∧ But W5.heap.size ob wr (w7.alloc (.cells cs 28)) ∧
      w7.cell? ⟨ob, 3, none⟩ = some v2 ∧ (w7.alloc (.cells cs 28)).cell? ⟨ob, 3, none⟩ = some v2 ∧ ∀ v' w9, w9.ownsRow W5.heap.size 28 5 v' (j + 1) (xs ++ cs.toList) → (w7.alloc (.cells cs 28)).grownBy w9 v2.ownBlock →
      (v'.ownBlock = v2.ownBlock ∨ v'.ownBlock = some (w7.alloc (.cells cs 28)).heap.size) →
      But W5.heap.size ob wr w9 ∧ w9.cell? ⟨ob, 3, none⟩ = some v2 ∧ w9.frozen? ⟨ob, 3, none⟩ = false ∧ But W5.heap.size ob wr (w9.setCell ⟨ob, 3, none⟩ v') ∧
        LInv3 fs l ob k t v q W5 (.int .i64 ((j : Int) + 1)) (w9.setCell ⟨ob, 3, none⟩ v') := by
  have hs := hh.size
  have hbw : Below wr.heap.size wr w7 := hbd.trans (by rw [← hsd]; exact hb)
  have hs7 := hbw.size
  have hba : Below wr.heap.size wr (w7.alloc (.cells cs 28)) := hbw.alloc hbw.size _
  obtain ⟨xs, hown8, hx8⟩ := OwnD.below hown hba
  rw [hfl] at hown8
  have hvl : ∀ k, v2.ownBlock = some k → W5.heap.size ≤ k ∧ k < wr.heap.size := by
    obtain ⟨ys, hy, _⟩ := hown
    exact hy.lt
  have hz8 : (w7.alloc (.cells cs 28)).heap.size = w7.heap.size + 1 := by simp
  have o7 : w7.heap[ob]? = some (.cells #[.int .i64 k, .string t, v, v2, .int .i64 q] 28 (0, 0)) := by rw [hbw.block _ (by omega)]; exact ho
  have o8 : (w7.alloc (.cells cs 28)).heap[ob]? = some (.cells #[.int .i64 k, .string t, v, v2, .int .i64 q] 28 (0, 0)) := by rw [hba.block _ (by omega)]; exact ho
  refine ⟨xs, hown8, by rw [hz8]; omega, But.of (hbw.mono hs), But.of (hba.mono hs), by rw [Lib.cell_of_heap o7]; rfl, by rw [Lib.cell_of_heap o8]; rfl, fun v' w9 hown9 hg9 hv9 => ?_⟩
  have hB9 : Below W5.heap.size wr w9 := (hba.mono hs).grown hg9 (by rw [hz8]; omega) (fun k hk => (hvl k hk).1)
  have g9 : w9.heap[ob]? = some (.cells #[.int .i64 k, .string t, v, v2, .int .i64 q] 28 (0, 0)) := by rw [hB9.block _ hs5]; exact ho
  refine ⟨But.of hB9, by rw [Lib.cell_of_heap g9]; rfl, frozen_of_row w9 ob 3 _ 28 g9, (But.of hB9).setCell (p := ⟨ob, 3, none⟩) (.inr rfl) v', ?_⟩
  refine ⟨j + 1, v', by omega, by congr 1, heap_setCell_same w9 _ 3 _ 28 v' g9, ?_, (hh.below hB9).setCell (p := ⟨ob, 3, none⟩) rfl _⟩
  refine OwnD.setCell ?_ (by show ob < _; omega) _
  rw [hfs]
  have hlx : xs.length = j * 5 := hown8.1
  refine OwnD.snoc hx8 (by rw [hfl]; exact hlx) h5 ?_ (by rw [hfl]; exact hown9) hg9 hv9
  have h1 := Dt.At.bound _ cs hat
  have h2 := Dt.At.keeps (Keeps.of_below ((Below.refl w7.heap.size w7).alloc (Nat.le_refl _) (.cells cs 28))) _ cs h1
  refine Dt.At.mono (fun b hb' => ⟨?_, ?_⟩) _ cs h2
  · have : WD.heap.size ≤ b := hb'.1; omega
  · intro e
    have := (hvl b e).2
    have : WD.heap.size ≤ b := hb'.1
    omega
end Go.Proofs.Ytlkpddokmibkiaa
