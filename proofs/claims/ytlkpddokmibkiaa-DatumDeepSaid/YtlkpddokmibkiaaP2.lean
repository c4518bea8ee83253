/- Plain, at any datum: its tree; the row that it fills; its loop. -/
import Derived.Test.YtlkpddokmibkiaaR8
import Derived.Test.YtlkpddokmibkiaaE2
import Derived.Test.YtlkpddokmibkiaaP1
import Derived.Laws.MakeOwn
import Derived.Deep.MidRow
import Derived.Deep.RegionHeld3
import Derived.Deep.Cut
namespace Go.Proofs.Ytlkpddokmibkiaa
open Go.RowKit
set_option linter.unusedVariables false
set_option linter.unusedSimpArgs false

namespace Dt
mutual
/-- The same without marks. -/
def plain : Dt → Dt
  | mk k t _ l p => mk k t [] (plains l) p
def plains : List Dt → List Dt
  | [] => []
  | d :: l => d.plain :: plains l
end
end Dt
theorem plains_length : ∀ (l : List Dt), (Dt.plains l).length = l.length
  | [] => by simp [Dt.plains]
  | d :: l => by simp [Dt.plains, plains_length l]
theorem plains_get : ∀ (l : List Dt) (j : Nat) (h : j < l.length) (h' : j < (Dt.plains l).length), (Dt.plains l)[j] = l[j].plain
  | [], j, h, _ => by simp at h
  | d :: l, 0, _, _ => by simp [Dt.plains]
  | d :: l, j + 1, h, h' => by
    have := plains_get l j (by simpa using h) (by simpa [Dt.plains] using h')
    simpa [Dt.plains] using this

theorem wp_made {o : Oper} {a : Act} {w : World} {K : Act → World → Prop} {Q : Exit → Act → World → Prop} (x y : Operand) (n : Nat) (ho : o.op = .makeSlice 26 x y) (hx : a.eval x = .int .i64 n) (hy : a.eval y = .int .i64 n) (hn : n ≤ 1000000000)
    (h : K (a.put o.dst (.slice (some ⟨w.heap.size, 0, none⟩) n n)) (w.alloc (.cells (madeCells Z5 (n * 5)) 28))) : o.wp Try.prog a w K Q := by
  obtain ⟨i, hi, hz, hs, hb⟩ := info_parts infoD
  have hr := run_make (P := Try.prog) w 26 28 i (.agg Z5) Try.underlying26 hi hz .i64 .i64 (n : Int) (n : Int) (by omega) (by omega) (by rw [hb]; omega) (by omega)
  have e : Value.cells (.agg Z5) = Z5 := rfl
  rw [hs, Int.toNat_natCast, e] at hr
  unfold Oper.wp execOp
  simp only [ho, hx, hy, Sem.run_bind, Sem.run_pure, Result.andThen_ok, hr]
  exact h

/-- A row with five cells written over. -/
def put5 (arr : Array Value) (o : Nat) (a b c d e : Value) : Array Value := ((((arr.setIfInBounds o a).setIfInBounds (o + 1) b).setIfInBounds (o + 1 + 1) c).setIfInBounds (o + 1 + 1 + 1) d).setIfInBounds (o + 1 + 1 + 1 + 1) e
theorem setCells5 (w : World) (g o : Nat) (arr : Array Value) (T : TypeId) (a b c d e : Value) (hg : w.heap[g]? = some (.cells arr T (0, 0))) :
    (w.setCells g o [a, b, c, d, e]).heap[g]? = some (.cells (put5 arr o a b c d e) T (0, 0)) := by
  simp only [World.setCells]
  exact heap_setCell_same _ g _ _ T e (heap_setCell_same _ g _ _ T d (heap_setCell_same _ g _ _ T c (heap_setCell_same _ g _ _ T b (heap_setCell_same _ g _ _ T a hg))))
theorem setCells5_other (w : World) (g o k : Nat) (a b c d e : Value) (hk : k ≠ g) : (w.setCells g o [a, b, c, d, e]).heap[k]? = w.heap[k]? := by
  simp only [World.setCells]
  rw [heap_setCell_other _ _ _ _ hk, heap_setCell_other _ _ _ _ hk, heap_setCell_other _ _ _ _ hk, heap_setCell_other _ _ _ _ hk, heap_setCell_other _ _ _ _ hk]
theorem below_setCells5 {B : Nat} {v w : World} (h : Below B v w) (g o : Nat) (a b c d e : Value) (hg : B ≤ g) : Below B v (w.setCells g o [a, b, c, d, e]) := by
  simp only [World.setCells]
  exact ((((h.setCell (p := ⟨g, o, none⟩) hg a).setCell (p := ⟨g, o + 1, none⟩) hg b).setCell (p := ⟨g, o + 1 + 1, none⟩) hg c).setCell (p := ⟨g, o + 1 + 1 + 1, none⟩) hg d).setCell (p := ⟨g, o + 1 + 1 + 1 + 1, none⟩) hg e
theorem put5_size (arr : Array Value) (o : Nat) (a b c d e : Value) : (put5 arr o a b c d e).size = arr.size := by simp [put5]
theorem put5_other (arr : Array Value) (o k : Nat) (a b c d e : Value) (h : k < o ∨ o + 5 ≤ k) : (put5 arr o a b c d e)[k]? = arr[k]? := by
  unfold put5
  rw [Array.getElem?_setIfInBounds_ne (by omega), Array.getElem?_setIfInBounds_ne (by omega), Array.getElem?_setIfInBounds_ne (by omega), Array.getElem?_setIfInBounds_ne (by omega), Array.getElem?_setIfInBounds_ne (by omega)]
theorem put5_at (arr : Array Value) (o : Nat) (a b c d e : Value) (h : o + 5 ≤ arr.size) : ∀ i, i < 5 → (put5 arr o a b c d e)[o + i]? = (#[a, b, c, d, e] : Array Value)[i]? := by
  intro i hi
  have h5 : i = 0 ∨ i = 1 ∨ i = 2 ∨ i = 3 ∨ i = 4 := by omega
  unfold put5
  rcases h5 with rfl | rfl | rfl | rfl | rfl
  · show _[o]? = _
    rw [Array.getElem?_setIfInBounds_ne (by omega), Array.getElem?_setIfInBounds_ne (by omega), Array.getElem?_setIfInBounds_ne (by omega), Array.getElem?_setIfInBounds_ne (by omega), Array.getElem?_setIfInBounds_self_of_lt (by first | omega | (simp; omega))]; rfl
  · show _[o + 1]? = _
    rw [Array.getElem?_setIfInBounds_ne (by omega), Array.getElem?_setIfInBounds_ne (by omega), Array.getElem?_setIfInBounds_ne (by omega), Array.getElem?_setIfInBounds_self_of_lt (by first | omega | (simp; omega))]; rfl
  · show _[o + 1 + 1]? = _
    rw [Array.getElem?_setIfInBounds_ne (by omega), Array.getElem?_setIfInBounds_ne (by omega), Array.getElem?_setIfInBounds_self_of_lt (by first | omega | (simp; omega))]; rfl
  · show _[o + 1 + 1 + 1]? = _
    rw [Array.getElem?_setIfInBounds_ne (by omega), Array.getElem?_setIfInBounds_self_of_lt (by first | omega | (simp; omega))]; rfl
  · show _[o + 1 + 1 + 1 + 1]? = _
    rw [Array.getElem?_setIfInBounds_self_of_lt (by first | omega | (simp; omega))]; rfl

/-- A row being filled: its first j data are these, all their blocks behind the row's. -/
def Filled (B g n : Nat) (w : World) (ds : List Dt) : Prop :=
  ∃ arr, w.heap[g]? = some (.cells arr 28 (0, 0)) ∧ arr.size = n * 5 ∧ ∀ j (h : j < ds.length), ∃ cs : Array Value, (∀ i, i < 5 → arr[5 * j + i]? = cs[i]?) ∧ Dt.At (fun k => B ≤ k ∧ k ≠ g) w ds[j] cs
theorem Filled.below {B g n : Nat} {w w' : World} {ds : List Dt} (h : Filled B g n w ds) (hb : Below w.heap.size w w') : Filled B g n w' ds := by
  obtain ⟨arr, h1, h2, h3⟩ := h
  refine ⟨arr, by rw [hb.block g (Array.getElem?_eq_some_iff.1 h1).1]; exact h1, h2, fun j hj => ?_⟩
  obtain ⟨cs, h4, h5⟩ := h3 j hj
  exact ⟨cs, h4, Dt.At.keeps (Keeps.of_below hb) _ _ h5⟩
theorem Filled.at {B g n : Nat} {w : World} {ds : List Dt} (h : Filled B g n w ds) (hB : B ≤ g) (hn : ds.length = n) : LAt (fun k => B ≤ k) w (.slice (some ⟨g, 0, none⟩) n n) ds := by
  obtain ⟨arr, h1, h2, h3⟩ := h
  refine .inr ⟨g, 0, n, arr, (0, 0), by rw [hn], hB, h1, Dts.At.of_get _ _ _ fun j hj => ?_⟩
  obtain ⟨cs, h4, h5⟩ := h3 j hj
  exact ⟨cs, fun i hi => by rw [← h4 i hi]; congr 1; omega, Dt.At.mono (fun k hk => hk.1) _ _ h5⟩
theorem Filled.there {B g n : Nat} {w : World} {ds : List Dt} (h : Filled B g n w ds) {j : Nat} (hj : j < n) : w.there g (j * 5) 5 := by
  obtain ⟨arr, h1, h2, _⟩ := h
  intro i hi
  refine ⟨?_, frozen_of_row w g _ arr 28 h1⟩
  rw [Lib.cell_of_heap h1]
  simp
  omega
/-- One datum more. -/
theorem Filled.snoc {B g n : Nat} {w : World} {ds : List Dt} {d : Dt} {k : Int} {t : ByteArray} {mv lv : Value} {p : Int} (h : Filled B g n w ds) (hj : ds.length < n)
    (hd : Dt.At (fun k => B ≤ k ∧ k ≠ g) w d #[.int .i64 k, .string t, mv, lv, .int .i64 p]) : Filled B g n (w.setCells g (ds.length * 5) [.int .i64 k, .string t, mv, lv, .int .i64 p]) (ds ++ [d]) := by
  obtain ⟨arr, h1, h2, h3⟩ := h
  have key : ∀ (d : Dt) (cs : Array Value), Dt.At (fun k => B ≤ k ∧ k ≠ g) w d cs → Dt.At (fun k => B ≤ k ∧ k ≠ g) (w.setCells g (ds.length * 5) [.int .i64 k, .string t, mv, lv, .int .i64 p]) d cs := by
    intro d cs hc
    refine Dt.At.keeps ?_ d cs hc
    intro x c T fz hx hgx _
    exact ⟨fz, by rw [setCells5_other _ _ _ _ _ _ _ _ _ hx.2]; exact hgx⟩
  refine ⟨_, setCells5 w g (ds.length * 5) arr 28 _ _ _ _ _ h1, by rw [put5_size]; exact h2, fun j hjj => ?_⟩
  by_cases hlt : j < ds.length
  · obtain ⟨cs, h4, h5⟩ := h3 j hlt
    refine ⟨cs, fun i hi => by rw [put5_other _ _ _ _ _ _ _ _ (by omega)]; exact h4 i hi, ?_⟩
    rw [List.getElem_append_left hlt]; exact key _ _ h5
  · have hj' : j = ds.length := by simp at hjj; omega
    subst hj'
    refine ⟨#[.int .i64 k, .string t, mv, lv, .int .i64 p], fun i hi => ?_, ?_⟩
    · have h6 := put5_at arr (ds.length * 5) (.int .i64 k) (.string t) mv lv (.int .i64 p) (by rw [h2]; omega) i hi
      rw [show 5 * ds.length + i = ds.length * 5 + i by omega]; exact h6
    · rw [List.getElem_append_right (by omega)]; simp; exact key _ _ hd
theorem Filled.new (w : World) (n : Nat) : Filled 0 w.heap.size n (w.alloc (.cells (madeCells Z5 (n * 5)) 28)) [] :=
  ⟨_, alloc_at w _, size_madeCells _ _, fun j h => by simp at h⟩
end Go.Proofs.Ytlkpddokmibkiaa
