/- The walk of CoreShapes. -/
import Derived.Test.YtmcgocbkjdacaaaDoorZB
import Derived.Test.YtmcgocbkjdacaaaDoorR4
import Derived.ChangeSame
namespace Go.Proofs.YtmcgocbkjdacaaaDoor
open Go.RowKit
set_option linter.unusedVariables false
set_option linter.unusedSimpArgs false
theorem OwnA.setCell {B : Nat} {w : World} {v : Value} {ds : List Et} (h : OwnA B w v ds) {a : Addr} (ha : a.block < B) (u : Value) : OwnA B (w.setCell a u) v ds := by
  obtain ⟨xs, hown, hd⟩ := h
  refine ⟨xs, ownsRow_setCell_below hown ha u, fun j hj => ?_⟩
  obtain ⟨cs, h5, h1, h2⟩ := hd j hj
  refine ⟨cs, h5, h1, Et.At.keeps ?_ _ _ h2⟩
  intro g c T fz hs hg _
  have : B ≤ g := hs.1
  exact ⟨fz, by rw [heap_setCell_other w a g u (by omega)]; exact hg⟩
theorem setRow_new_at (A : World) (z cs : Array Value) (T : TypeId) (m : Nat) (h : A.heap.size = m) : (A.alloc (.cells z T)).setRow m cs = A.alloc (.cells cs T) := by
  subst h; exact setRow_new A z cs T
theorem add_block (b : Addr) (n : Nat) : (b.add n).block = b.block := by unfold Addr.add; split <;> rfl
/-- A round of a loop that appends a term. -/
theorem all_more {ds : List Et} {B : Nat} {wr w7 : World} {v : Value} {d : Et} (hown : OwnA B wr v ds) (hl : ds.length ≤ 1000000) (hB : B ≤ wr.heap.size)
    {cs : Array Value} (hat : Et.At (fun g => wr.heap.size ≤ g) w7 d cs) (hb : Below wr.heap.size wr w7) (h5 : cs.size = 4) :
    ∃ xs, (w7.alloc (.cells cs 28)).ownsRow B 28 4 v ds.length xs ∧ B ≤ (w7.alloc (.cells cs 28)).heap.size ∧ ∀ v' w9, w9.ownsRow B 28 4 v' (ds.length + 1) (xs ++ cs.toList) → (w7.alloc (.cells cs 28)).grownBy w9 v.ownBlock →
      (v'.ownBlock = v.ownBlock ∨ v'.ownBlock = some (w7.alloc (.cells cs 28)).heap.size) → Below B wr w9 ∧ OwnA B w9 v' (ds ++ [d]) := by
  have hs7 := hb.size
  have hb8 : Below wr.heap.size wr (w7.alloc (.cells cs 28)) := hb.alloc hb.size _
  obtain ⟨xs, hown8, hx8⟩ := OwnA.below hown hb8
  have hvl : ∀ k, v.ownBlock = some k → B ≤ k ∧ k < wr.heap.size := by
    obtain ⟨ys, ho, _⟩ := hown
    exact ho.lt
  have hz8 : (w7.alloc (.cells cs 28)).heap.size = w7.heap.size + 1 := by simp
  refine ⟨xs, hown8, by rw [hz8]; omega, fun v' w9 hown9 hg9 hv9 => ?_⟩
  refine ⟨(hb8.mono hB).grown hg9 (by rw [hz8]; omega) (fun k hk => (hvl k hk).1), ?_⟩
  have hlx : xs.length = ds.length * 4 := hown8.1
  refine OwnA.snoc hx8 hlx h5 ?_ hown9 hg9 hv9
  have h1 := Et.At.bound d cs hat
  have h2 := Et.At.keeps (Keeps.of_below ((Below.refl w7.heap.size w7).alloc (Nat.le_refl _) (.cells cs 28))) d cs h1
  refine Et.At.mono (fun g hg => ⟨?_, ?_⟩) d cs h2
  · have : wr.heap.size ≤ g := hg.1; omega
  · intro e
    have := (hvl g e).2
    have : wr.heap.size ≤ g := hg.1
    omega
theorem OwnA.mono {B B' : Nat} {w : World} {v : Value} {ds : List Et} (h : OwnA B w v ds) (hB : B' ≤ B) : OwnA B' w v ds := by
  obtain ⟨xs, hown, hd⟩ := h
  refine ⟨xs, ⟨hown.1, ?_⟩, fun j hj => ?_⟩
  · rcases hown.2 with h | ⟨g, cap, cur, rfl, hb, r⟩
    · exact .inl h
    · exact .inr ⟨g, cap, cur, rfl, by omega, r⟩
  · obtain ⟨cs, h5, h1, h2⟩ := hd j hj
    exact ⟨cs, h5, h1, Et.At.mono (fun g hg => ⟨by have := hg.1; omega, hg.2⟩) _ _ h2⟩

/-- A struct of a term in its own block. -/
def EB (w : World) (g : Nat) (k : Int) (t : ByteArray) (nv av : Value) : Prop := w.heap[g]? = some (.cells #[.int .i64 k, .string t, nv, av] 28 (0, 0))
theorem EB.cell (w : World) (g : Nat) (k : Int) (t : ByteArray) (nv av : Value) (h : EB w g k t nv av) : w.cell? ⟨g, 0, none⟩ = some (.int .i64 k) ∧ w.cell? ⟨g, 1, none⟩ = some (.string t) ∧ w.cell? ⟨g, 2, none⟩ = some nv ∧ w.cell? ⟨g, 3, none⟩ = some av := by
  unfold EB at h
  refine ⟨?_, ?_, ?_, ?_⟩ <;> (rw [Lib.cell_of_heap h]; rfl)
theorem EB.setA {w : World} {g : Nat} {k : Int} {t : ByteArray} {nv av : Value} (h : EB w g k t nv av) (v : Value) : EB (w.setCell ⟨g, 3, none⟩ v) g k t nv v := by
  have := heap_setCell_same w g 3 _ 28 v h
  unfold EB; rw [this]; rfl
theorem EB.setN {w : World} {g : Nat} {k : Int} {t : ByteArray} {nv av : Value} (h : EB w g k t nv av) (v : Value) : EB (w.setCell ⟨g, 2, none⟩ v) g k t v av := by
  have := heap_setCell_same w g 2 _ 28 v h
  unfold EB; rw [this]; rfl
theorem EB.frozen {w : World} {g : Nat} {k : Int} {t : ByteArray} {nv av : Value} (h : EB w g k t nv av) (i : Nat) : w.frozen? ⟨g, i, none⟩ = false := frozen_of_row w g i _ 28 h
theorem OwnN.setCell {B : Nat} {w : World} {v : Value} {ns : List ByteArray} (h : OwnN B w v ns) {a : Addr} (ha : a.block < B) (u : Value) : OwnN B (w.setCell a u) v ns := ownsRow_setCell_below h ha u
/-- Blocks below B stay, but for the one that counts. -/
structure But (B g : Nat) (w w' : World) : Prop where
  os : w'.os = w.os
  tape : w'.tape = w.tape
  output : w'.output = w.output
  size : w.heap.size ≤ w'.heap.size
  block : ∀ k, k < B → k ≠ g → w'.heap[k]? = w.heap[k]?
theorem But.refl (B g : Nat) (w : World) : But B g w w := ⟨rfl, rfl, rfl, Nat.le_refl _, fun _ _ _ => rfl⟩
theorem But.trans {B g : Nat} {a b c : World} (h : But B g a b) (k : But B g b c) : But B g a c :=
  ⟨k.os.trans h.os, k.tape.trans h.tape, k.output.trans h.output, Nat.le_trans h.size k.size, fun i hi hg => (k.block i hi hg).trans (h.block i hi hg)⟩
theorem But.mono {B B' g : Nat} {w w' : World} (h : But B g w w') (hB : B' ≤ B) : But B' g w w' := ⟨h.os, h.tape, h.output, h.size, fun k hk => h.block k (Nat.lt_of_lt_of_le hk hB)⟩
theorem But.of {B g : Nat} {w w' : World} (h : Below B w w') : But B g w w' := ⟨h.os, h.tape, h.output, h.size, fun k hk _ => h.block k hk⟩
theorem But.drew {B g : Nat} {a w : World} (h : But B g a w) : But B g a w.drew := ⟨h.os, h.tape, h.output, h.size, h.block⟩
theorem But.alloc {B g : Nat} {a w : World} (h : But B g a w) (hB : B ≤ w.heap.size) (o : Obj) : But B g a (w.alloc o) := h.trans (But.of ((Below.refl B w).alloc hB o))
theorem But.setCell {B g : Nat} {a w : World} (h : But B g a w) {p : Addr} (hp : B ≤ p.block ∨ p.block = g) (u : Value) : But B g a (w.setCell p u) := by
  refine h.trans ⟨rfl, rfl, rfl, by simp [World.setCell], fun k hk hg => ?_⟩
  exact Below.heap_setCell w p u k (by rintro rfl; rcases hp with hp | hp <;> omega)
theorem But.cell {B g : Nat} {w w' : World} (h : But B g w w') {p : Addr} (hp : p.block < B) (hg : p.block ≠ g) : w'.cell? p = w.cell? p := World.cell?_of_block (w := w) (h.block p.block hp hg)
theorem But.keeps {S : Nat → Prop} {g : Nat} {w w' : World} (h : But w.heap.size g w w') (hS : ∀ k, S k → k ≠ g) : Keeps S w w' := by
  intro k c T fz hs hg _
  exact ⟨fz, by rw [h.block k (Array.getElem?_eq_some_iff.1 hg).1 (hS k hs)]; exact hg⟩

abbrev eN : Et := .mk 3 ⟨#[]⟩ [] []
def nmP : List ByteArray := [⟨#[112]⟩, ⟨#[113]⟩, ⟨#[114]⟩]
def shT : List ByteArray := [⟨#[]⟩, ⟨#[120]⟩, ⟨#[53]⟩, ⟨#[35, 116]⟩, ⟨#[99, 111, 110, 115]⟩, ⟨#[99, 97, 114]⟩, ⟨#[45, 48]⟩]
theorem shT_small (i : Nat) : (shT.getD i ⟨#[]⟩).size ≤ 100 := by
  by_cases h : i < 7
  · match i, h with
    | 0, _ => decide
    | 1, _ => decide
    | 2, _ => decide
    | 3, _ => decide
    | 4, _ => decide
    | 5, _ => decide
    | 6, _ => decide
    | n + 7, h => exact absurd h (by omega)
  · rw [List.getD_eq_getElem?_getD, List.getElem?_eq_none (by simp [shT]; omega)]; decide
theorem nilC_one : ∀ u ∈ nilC.toList, u.oneCell' = true := by
  intro u hu
  simp [nilC] at hu
  rcases hu with rfl | rfl | rfl <;> rfl
theorem nilC_cells (w : World) : ∀ (i : Nat) u, nilC.toList[i]? = some u → (w.alloc (.cells nilC 28)).cell? ⟨w.heap.size, i, none⟩ = some u := by
  intro i u hu
  rw [Lib.cell_of_heap (alloc_at w _)]
  simpa using hu
def ShA (w : World) (g r : Nat) (k : Int) (t : ByteArray) (iv : Value) (wr : World) : Prop :=
  ∃ (j : Nat) (av : Value), j ≤ r ∧ iv = .int .i64 (j : Int) ∧ OwnA (g + 1) wr av (List.replicate j eN) ∧ EB wr g k t (.slice none 0 0) av ∧ Below w.heap.size w wr
def ShN (w W0 : World) (g m : Nat) (k : Int) (t : ByteArray) (av : Value) (iv : Value) (wr : World) : Prop :=
  ∃ (j : Nat) (nv : Value), j ≤ m ∧ iv = .int .i64 (j : Int) ∧ OwnN W0.heap.size wr nv (nmP.take j) ∧ EB wr g k t nv av ∧ But W0.heap.size g W0 wr ∧ Below w.heap.size w wr
theorem nmP_at (j : Nat) (h : j < 3) : ∃ x, nmP.getD j ⟨#[]⟩ = x ∧ nmP.take (j + 1) = nmP.take j ++ [x] := by
  refine ⟨_, rfl, ?_⟩
  have hl : j < nmP.length := h
  rw [List.take_succ_eq_append_getElem hl, List.getD_eq_getElem?_getD, List.getElem?_eq_getElem hl]; rfl
theorem row_rangeB {w : World} {g : Nat} {cs : List Value} {T : TypeId} {fz : Nat × Nat} (h : w.heap[g]? = some (.cells cs.toArray T fz)) : w.rangeAt g 0 cs := by
  intro j v hv
  rw [Nat.zero_add, Lib.cell_of_heap h]
  simpa using hv
end Go.Proofs.YtmcgocbkjdacaaaDoor
