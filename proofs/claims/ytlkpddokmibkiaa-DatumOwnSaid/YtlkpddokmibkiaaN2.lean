/- Marked: what it keeps; its loops' invariants. -/
import Derived.Test.YtlkpddokmibkiaaN1
import Derived.Deep.RegionHeld3
import Derived.Deep.Cut
namespace Go.Proofs.Ytlkpddokmibkiaa
open Go.RowKit
set_option linter.unusedVariables false
set_option linter.unusedSimpArgs false

/-- Blocks below B stay, but for the one that counts. -/
structure But (B g : Nat) (w w' : World) : Prop where
  os : w'.os = w.os
  tape : w'.tape = w.tape
  output : w'.output = w.output
  size : w.heap.size ≤ w'.heap.size
  block : ∀ k, k < B → k ≠ g → w'.heap[k]? = w.heap[k]?
theorem But.refl (B g : Nat) (w : World) : But B g w w := ⟨rfl, rfl, rfl, Nat.le_refl _, fun _ _ _ => rfl⟩
theorem But.trans {B g : Nat} {a b c : World} (h : But B g a b) (k : But B g b c) : But B g a c :=
  ⟨k.os.trans h.os, k.tape.trans h.tape, k.output.trans h.output, Nat.le_trans h.size k.size, fun i hi hg => (k.block i hi hg).trans (h.block i hi hg)⟩
theorem But.mono {B B' g : Nat} {w w' : World} (h : But B g w w') (hB : B' ≤ B) : But B' g w w' := ⟨h.os, h.tape, h.output, h.size, fun k hk => h.block k (Nat.lt_of_lt_of_le hk hB)⟩
theorem But.of {B g : Nat} {w w' : World} (h : Below B w w') : But B g w w' := ⟨h.os, h.tape, h.output, h.size, fun k hk _ => h.block k hk⟩
theorem But.drew {B g : Nat} {a w : World} (h : But B g a w) : But B g a w.drew := ⟨h.os, h.tape, h.output, h.size, h.block⟩
theorem But.alloc {B g : Nat} {a w : World} (h : But B g a w) (hB : B ≤ w.heap.size) (o : Obj) : But B g a (w.alloc o) := h.trans (But.of ((Below.refl B w).alloc hB o))
theorem But.setCell {B g : Nat} {a w : World} (h : But B g a w) {p : Addr} (hp : B ≤ p.block ∨ p.block = g) (u : Value) : But B g a (w.setCell p u) := by
  refine h.trans ⟨rfl, rfl, rfl, by simp [World.setCell], fun k hk hg => ?_⟩
  exact Below.heap_setCell w p u k (by rintro rfl; rcases hp with hp | hp <;> omega)
theorem But.cell {B g : Nat} {w w' : World} (h : But B g w w') {p : Addr} (hp : p.block < B) (hg : p.block ≠ g) : w'.cell? p = w.cell? p := World.cell?_of_block (w := w) (h.block p.block hp hg)
theorem But.keeps {S : Nat → Prop} {g : Nat} {w w' : World} (h : But w.heap.size g w w') (hS : ∀ k, S k → k ≠ g) : Keeps S w w' := by
  intro k c T fz hs hg _
  exact ⟨fz, by rw [h.block k (Array.getElem?_eq_some_iff.1 hg).1 (hS k hs)]; exact hg⟩

/-- A slice of numbers that is read, none of it where the counter stands. -/
def Sg (g : Nat) (w : World) (ao : Option Addr) (len cap : Nat) (ns : List Int) : Prop :=
  ns.length = len ∧ (∀ j (h : j < ns.length), I64 ns[j]) ∧ ((ao = none ∧ len = 0 ∧ cap = 0) ∨ ∃ x, ao = some x ∧ (0 < ns.length → x.block ≠ g) ∧ ∀ j (h : j < ns.length), w.cell? (x.add j) = some (.int .i64 ns[j]))
theorem Sg.but {g : Nat} {w w' : World} {ao : Option Addr} {len cap : Nat} {ns : List Int} (h : Sg g w ao len cap ns) (hb : But w.heap.size g w w') : Sg g w' ao len cap ns := by
  obtain ⟨h1, h0, h2⟩ := h
  refine ⟨h1, h0, ?_⟩
  rcases h2 with h | ⟨x, rfl, hx, h⟩
  · exact .inl h
  · exact .inr ⟨x, rfl, hx, fun j hj => by rw [hb.cell (World.block_lt_of_cell? w _ (h j hj)) (by rw [add_block]; exact hx (by omega))]; exact h j hj⟩
theorem Sg.of_row {g : Nat} {w : World} {a : Option Addr} {len cap : Nat} {zs : List Int} (h : IsRow .i64 w a len cap zs) (hg : w.heap.size ≤ g) : Sg g w a len cap (zs.take len) := by
  rcases h with ⟨rfl, rfl, rfl, rfl⟩ | ⟨x, rfl, h1, h2, h3, h4, h5⟩
  · exact ⟨rfl, fun j h => by simp at h, .inl ⟨rfl, rfl, rfl⟩⟩
  · have hc : ∀ j (h : j < (zs.take len).length), w.cell? (x.add j) = some (.int .i64 (zs.take len)[j]) := fun j hj => by
      rw [List.length_take] at hj
      rw [h4 j (by omega), List.getElem_take, List.getD_eq_getElem?_getD, List.getElem?_eq_getElem (by omega)]; rfl
    refine ⟨by rw [List.length_take]; omega, fun j hj => ?_, .inr ⟨x, rfl, fun h0 => ?_, hc⟩⟩
    · have := h5 ((zs.take len)[j]) (by rw [List.getElem_take]; exact List.getElem_mem _)
      exact wf_I64 _ this
    · have := World.block_lt_of_cell? w _ (hc 0 h0)
      rw [add_block] at this; omega
def RetMark (ns : List Int) (g : Nat) (d : Dt) (p : Nat) (w : World) (e : Ending) (w' : World) : Prop :=
  ∃ cs, e = .returned (.agg cs) ∧ Dt.At (fun k => w.heap.size ≤ k) w' (d.mark ns p) cs ∧ But w.heap.size g w w' ∧ w'.heap[g]? = some (.cells #[.int .i64 (d.next ns p : Nat)] 3 (0, 0))
/-- What is still to come. -/
def mksTo (ns : List Int) (k : Int) (m p : Nat) : List Int := if k = 3 then mks ns m p else []
/-- The first loop: so many marks are there. -/
def LInv1 (ns : List Int) (g p : Nat) (k : Int) (t : ByteArray) (q : Int) (raw : Array Value) (w wr : World) : Prop :=
  ∃ (v : Value) (made : List Int), made.length ≤ 4 ∧ mksAt ns k p = made ++ mksTo ns k (4 - made.length) (p + made.length) ∧ Nums (w.heap.size + 1 + 1 + 1) wr v made ∧
    wr.heap[w.heap.size + 1 + 1]? = some (.cells #[.int .i64 k, .string t, v, .slice none 0 0, .int .i64 q] 28 (0, 0)) ∧ wr.heap[w.heap.size + 1]? = some (.cells Z5 28 (0, 0)) ∧ wr.heap[w.heap.size]? = some (.cells raw 28 (0, 0)) ∧
    wr.heap[g]? = some (.cells #[.int .i64 (p + made.length : Nat)] 3 (0, 0)) ∧ But w.heap.size g w wr ∧ w.heap.size + 1 + 1 < wr.heap.size
/-- How many marks a block's datum has. -/
def mlen (wr : World) (b : Nat) : Nat := match wr.heap[b]? with | some (Obj.cells c _ _) => (match c[2]? with | some (Value.slice _ l _) => l | _ => 0) | _ => 0
theorem mlen_at {wr : World} {b : Nat} {k t q l : Value} {ao : Option Addr} {n c : Nat} {fz : Nat × Nat} (h : wr.heap[b]? = some (.cells #[k, t, .slice ao n c, l, q] 28 fz)) : mlen wr b = n := by
  unfold mlen; rw [h]; rfl

theorem nums_form {B : Nat} {w : World} {v : Value} {ms : List Int} (h : Nums B w v ms) : ∃ ao c, v = .slice ao ms.length c := by
  rcases h.2 with ⟨rfl, hz⟩ | ⟨g, cap, cur, rfl, _⟩
  · exact ⟨none, 0, by rw [hz]⟩
  · exact ⟨_, _, rfl⟩
theorem Nums.below {B : Nat} {w w' : World} {v : Value} {ms : List Int} (h : Nums B w v ms) (hb : Below w.heap.size w w') : Nums B w' v ms := by
  refine World.ownsRow.kept h (Below.grownRow hb Option.none) ?_
  cases v.ownBlock <;> simp
theorem nums_app {B : Nat} {w w' w2 : World} {v : Value} {ys : List Int} (hb : Below B w w') (hn : Nums B w' v ys) (hB : B ≤ w'.heap.size) (hg : w'.grownBy w2 v.ownBlock) : Below B w w2 :=
  hb.grown hg hB (fun k hk => (hn.lt k hk).1)
theorem mark_step {ns : List Int} {g p : Nat} {k : Int} {t : ByteArray} {q : Int} {raw : Array Value} {w wr : World} {v : Value} {made : List Int} (hgl : g < w.heap.size) (h4 : made.length < 4) {y : Int}
    (hme : mksAt ns k p = made ++ mksTo ns k (4 - made.length) (p + made.length)) (hy : mksTo ns k (4 - made.length) (p + made.length) = y :: mksTo ns k (4 - (made.length + 1)) (p + (made.length + 1)))
    (ho : wr.heap[w.heap.size + 1 + 1]? = some (.cells #[.int .i64 k, .string t, v, .slice none 0 0, .int .i64 q] 28 (0, 0))) (hz : wr.heap[w.heap.size + 1]? = some (.cells Z5 28 (0, 0))) (h0 : wr.heap[w.heap.size]? = some (.cells raw 28 (0, 0)))
    (hgc : wr.heap[g]? = some (.cells #[.int .i64 (p + made.length : Nat)] 3 (0, 0))) (hbut : But w.heap.size g w wr) (hbs : w.heap.size + 1 + 1 < wr.heap.size)
    {w9 : World} {ao : Option Addr} {c : Nat} (hn9 : Nums (w.heap.size + 1 + 1 + 1) w9 (.slice ao (made.length + 1) c) (made ++ [y])) (hb9 : Below (w.heap.size + 1 + 1 + 1) wr w9) :
    Below (w.heap.size + 1 + 1) wr w9 ∧ w9.cell? ⟨w.heap.size + 1 + 1, 2, none⟩ = some v ∧ w9.frozen? ⟨w.heap.size + 1 + 1, 2, none⟩ = false ∧ Below (w.heap.size + 1 + 1) wr (w9.setCell ⟨w.heap.size + 1 + 1, 2, none⟩ (.slice ao (made.length + 1) c)) ∧
      (w9.setCell ⟨w.heap.size + 1 + 1, 2, none⟩ (.slice ao (made.length + 1) c)).cell? ⟨g, 0, none⟩ = some (.int .i64 (p + made.length : Nat)) ∧ (w9.setCell ⟨w.heap.size + 1 + 1, 2, none⟩ (.slice ao (made.length + 1) c)).frozen? ⟨g, 0, none⟩ = false ∧
      LInv1 ns g p k t q raw w ((w9.setCell ⟨w.heap.size + 1 + 1, 2, none⟩ (.slice ao (made.length + 1) c)).setCell ⟨g, 0, none⟩ (.int .i64 (((p + made.length : Nat) : Int) + 1))) ∧
      mlen ((w9.setCell ⟨w.heap.size + 1 + 1, 2, none⟩ (.slice ao (made.length + 1) c)).setCell ⟨g, 0, none⟩ (.int .i64 (((p + made.length : Nat) : Int) + 1))) (w.heap.size + 1 + 1) = made.length + 1 := by
  have o9 : w9.heap[w.heap.size + 1 + 1]? = some (.cells #[.int .i64 k, .string t, v, .slice none 0 0, .int .i64 q] 28 (0, 0)) := by rw [hb9.block _ (by omega)]; exact ho
  have b10 : Below (w.heap.size + 1 + 1) wr (w9.setCell ⟨w.heap.size + 1 + 1, 2, none⟩ (.slice ao (made.length + 1) c)) := (hb9.mono (show w.heap.size + 1 + 1 ≤ w.heap.size + 1 + 1 + 1 by omega)).setCell (p := ⟨w.heap.size + 1 + 1, 2, none⟩) (Nat.le_refl _) _
  have g10 : (w9.setCell ⟨w.heap.size + 1 + 1, 2, none⟩ (.slice ao (made.length + 1) c)).heap[g]? = some (.cells #[.int .i64 (p + made.length : Nat)] 3 (0, 0)) := by rw [b10.block _ (by omega)]; exact hgc
  have o10 := heap_setCell_same w9 (w.heap.size + 1 + 1) 2 _ 28 (.slice ao (made.length + 1) c) o9
  have o11 : ((w9.setCell ⟨w.heap.size + 1 + 1, 2, none⟩ (.slice ao (made.length + 1) c)).setCell ⟨g, 0, none⟩ (.int .i64 (((p + made.length : Nat) : Int) + 1))).heap[w.heap.size + 1 + 1]? =
      some (.cells #[.int .i64 k, .string t, .slice ao (made.length + 1) c, .slice none 0 0, .int .i64 q] 28 (0, 0)) := by
    rw [heap_setCell_other _ _ _ _ (by show w.heap.size + 1 + 1 ≠ g; omega)]; exact o10
  refine ⟨hb9.mono (by omega), by rw [Lib.cell_of_heap o9]; rfl, frozen_of_row w9 (w.heap.size + 1 + 1) 2 _ 28 o9, b10, by rw [Lib.cell_of_heap g10]; rfl, frozen_of_row _ g 0 _ 3 g10, ?_, mlen_at o11⟩
  refine ⟨.slice ao (made.length + 1) c, made ++ [y], by simp; omega, ?_, ?_, o11, ?_, ?_, ?_, ?_, ?_⟩
  · rw [hme, hy]; simp
  · exact ownsRow_setCell_below (ownsRow_setCell_below hn9 (a := ⟨w.heap.size + 1 + 1, 2, none⟩) (by show w.heap.size + 1 + 1 < _; omega) _) (a := ⟨g, 0, none⟩) (by show g < _; omega) _
  · rw [heap_setCell_other _ _ _ _ (by show w.heap.size + 1 ≠ g; omega), b10.block _ (by omega)]; exact hz
  · rw [heap_setCell_other _ _ _ _ (by show w.heap.size ≠ g; omega), b10.block _ (by omega)]; exact h0
  · have h := heap_setCell_same _ g 0 _ 3 (.int .i64 (((p + made.length : Nat) : Int) + 1)) g10
    rw [h]
    have e : (((p + made.length : Nat) : Int) + 1) = ((p + (made ++ [y]).length : Nat) : Int) := by simp; omega
    rw [e]; rfl
  · exact hbut.trans ((But.of (b10.mono (show w.heap.size ≤ w.heap.size + 1 + 1 by omega))).setCell (p := ⟨g, 0, none⟩) (.inr rfl) _)
  · have := b10.size
    simp only [World.setCell, Array.size_modify] at *
    omega

theorem range5 {w w' : World} {b o : Nat} {x0 x1 x2 x3 x4 : Value} (h : ∀ a : Addr, a.block = b → a.block < w.heap.size → w'.cell? a = w.cell? a) (hb : b < w.heap.size)
    (e0 : w.cell? ⟨b, o, none⟩ = some x0) (e1 : w.cell? ⟨b, o + 1, none⟩ = some x1) (e2 : w.cell? ⟨b, o + 2, none⟩ = some x2) (e3 : w.cell? ⟨b, o + 3, none⟩ = some x3) (e4 : w.cell? ⟨b, o + 4, none⟩ = some x4) : w'.rangeAt b o [x0, x1, x2, x3, x4] := by
  intro j v hv
  rw [h ⟨b, o + j, none⟩ rfl hb]
  rcases j with _ | _ | _ | _ | _ | j
  · simp at hv; subst hv; exact e0
  · simp at hv; subst hv; exact e1
  · simp at hv; subst hv; exact e2
  · simp at hv; subst hv; exact e3
  · simp at hv; subst hv; exact e4
  · simp at hv
theorem sizes_in : ∀ (l : List Dt) (j : Nat) (h : j < l.length), Dt.sizes (l.take j) + l[j].size ≤ Dt.sizes l
  | [], j, h => by simp at h
  | d :: l, 0, h => by simp [Dt.sizes]
  | d :: l, j + 1, h => by
    have := sizes_in l j (by simpa using h)
    simp only [List.take_succ_cons, Dt.sizes, List.getElem_cons_succ]; omega
/-- Blocks below B stay, but for two. -/
structure Hole (B g o : Nat) (w w' : World) : Prop where
  os : w'.os = w.os
  tape : w'.tape = w.tape
  output : w'.output = w.output
  size : w.heap.size ≤ w'.heap.size
  block : ∀ k, k < B → k ≠ g → k ≠ o → w'.heap[k]? = w.heap[k]?
theorem Hole.refl (B g o : Nat) (w : World) : Hole B g o w w := ⟨rfl, rfl, rfl, Nat.le_refl _, fun _ _ _ _ => rfl⟩
theorem Hole.but {B g o : Nat} {a b c : World} (h : Hole B g o a b) (k : But B g b c) : Hole B g o a c :=
  ⟨k.os.trans h.os, k.tape.trans h.tape, k.output.trans h.output, Nat.le_trans h.size k.size, fun i hi hg ho => (k.block i hi hg).trans (h.block i hi hg ho)⟩
theorem Hole.setCell {B g o : Nat} {a w : World} (h : Hole B g o a w) {p : Addr} (hp : p.block = o) (u : Value) : Hole B g o a (w.setCell p u) :=
  ⟨h.os, h.tape, h.output, Nat.le_trans h.size (by simp [World.setCell]), fun i hi hg ho => (Below.heap_setCell w p u i (by rintro rfl; exact ho hp)).trans (h.block i hi hg ho)⟩
theorem Hole.to {B B' g o : Nat} {a w : World} (h : Hole B g o a w) (hB : B' ≤ B) (ho : B' ≤ o) : But B' g a w :=
  ⟨h.os, h.tape, h.output, h.size, fun i hi hg => h.block i (by omega) hg (by omega)⟩
theorem But.grownRow {g : Nat} {w w' : World} (h : But w.heap.size g w w') : w.grownBy w' (some g) := ⟨h.os, h.tape, h.output, h.size, fun k hk hne => h.block k hk (fun e => hne (by rw [e]))⟩
theorem But.grown {B g : Nat} {a w w' : World} {row : Option Nat} (h : But B g a w) (hg : w.grownBy w' row) (hB : B ≤ w.heap.size) (hr : ∀ k, row = some k → B ≤ k) : But B g a w' :=
  h.trans (But.of ((Below.refl B w).grown hg hB hr))
theorem OwnD.but {B g : Nat} {w w' : World} {v : Value} {ds : List Dt} (h : OwnD B w v ds) (hb : But w.heap.size g w w') (hg : g < B) : OwnD B w' v ds := by
  obtain ⟨xs, hown, hd⟩ := h
  refine ⟨xs, hown.kept hb.grownRow ?_, fun j hj => ?_⟩
  · cases hv : v.ownBlock with
    | none => exact .inl rfl
    | some k =>
      right
      intro e
      injection e with e
      have := (hown.lt k hv).1
      omega
  · obtain ⟨cs, h5, h1, h2⟩ := hd j hj
    exact ⟨cs, h5, h1, Dt.At.keeps (hb.keeps (fun k hk => by have := hk.1; omega)) _ _ h2⟩
/-- The second loop: so many parts are there. -/
def LInv2 (ns : List Int) (g p1 : Nat) (l : List Dt) (k : Int) (t : ByteArray) (v : Value) (q : Int) (w W5 : World) (iv : Value) (wr : World) : Prop :=
  ∃ (j : Nat) (v2 : Value), j ≤ l.length ∧ iv = .int .i64 j ∧ wr.heap[w.heap.size + 1 + 1]? = some (.cells #[.int .i64 k, .string t, v, v2, .int .i64 q] 28 (0, 0)) ∧
    OwnD W5.heap.size wr v2 (Dt.marksAll ns (l.take j) p1) ∧ wr.heap[g]? = some (.cells #[.int .i64 (Dt.nexts ns (l.take j) p1 : Nat)] 3 (0, 0)) ∧ Hole W5.heap.size g (w.heap.size + 1 + 1) W5 wr
theorem part_more {ns : List Int} {g p1 : Nat} {l : List Dt} {k : Int} {t : ByteArray} {v : Value} {q : Int} {w W5 : World} {j : Nat} {v2 : Value} {wr : World} (hlt : j < l.length) (hl1 : l.length ≤ 1000000) (hgl : g < w.heap.size) (hs5 : w.heap.size + 1 + 1 < W5.heap.size)
    (ho : wr.heap[w.heap.size + 1 + 1]? = some (.cells #[.int .i64 k, .string t, v, v2, .int .i64 q] 28 (0, 0))) (hown : OwnD W5.heap.size wr v2 (Dt.marksAll ns (l.take j) p1)) (hh : Hole W5.heap.size g (w.heap.size + 1 + 1) W5 wr)
    {WD w7 : World} (hbd : Below wr.heap.size wr WD) (hsd : WD.heap.size = wr.heap.size) {cs : Array Value} (hat : Dt.At (fun b => WD.heap.size ≤ b) w7 (l[j].mark ns (Dt.nexts ns (l.take j) p1)) cs) (hb : But WD.heap.size g WD w7)
    (hg7 : w7.heap[g]? = some (.cells #[.int .i64 (l[j].next ns (Dt.nexts ns (l.take j) p1) : Nat)] 3 (0, 0))) (h5 : cs.size = 5) :
    ∃ xs, (w7.alloc (.cells cs 28)).ownsRow W5.heap.size 28 5 v2 j xs ∧ W5.heap.size ≤ (w7.alloc (.cells cs 28)).heap.size ∧ But (w.heap.size + 1 + 1) g wr w7 ∧ But (w.heap.size + 1 + 1) g wr (w7.alloc (.cells cs 28)) ∧
      w7.cell? ⟨w.heap.size + 1 + 1, 3, none⟩ = some v2 ∧ (w7.alloc (.cells cs 28)).cell? ⟨w.heap.size + 1 + 1, 3, none⟩ = some v2 ∧ ∀ v' w9, w9.ownsRow W5.heap.size 28 5 v' (j + 1) (xs ++ cs.toList) → (w7.alloc (.cells cs 28)).grownBy w9 v2.ownBlock →
      (v'.ownBlock = v2.ownBlock ∨ v'.ownBlock = some (w7.alloc (.cells cs 28)).heap.size) →
      But (w.heap.size + 1 + 1) g wr w9 ∧ w9.cell? ⟨w.heap.size + 1 + 1, 3, none⟩ = some v2 ∧ w9.frozen? ⟨w.heap.size + 1 + 1, 3, none⟩ = false ∧ But (w.heap.size + 1 + 1) g wr (w9.setCell ⟨w.heap.size + 1 + 1, 3, none⟩ v') ∧
        LInv2 ns g p1 l k t v q w W5 (.int .i64 ((j : Int) + 1)) (w9.setCell ⟨w.heap.size + 1 + 1, 3, none⟩ v') := by
  have hs := hh.size
  have hbw : But wr.heap.size g wr w7 := (But.of hbd).trans (by rw [← hsd]; exact hb)
  have hs7 := hbw.size
  have hba : But wr.heap.size g wr (w7.alloc (.cells cs 28)) := hbw.alloc hbw.size _
  obtain ⟨xs, hown8, hx8⟩ := OwnD.but hown hba (by omega)
  have hlen : (Dt.marksAll ns (l.take j) p1).length = j := by rw [marksAll_length, List.length_take]; omega
  rw [hlen] at hown8
  have hvl : ∀ k, v2.ownBlock = some k → W5.heap.size ≤ k ∧ k < wr.heap.size := by
    obtain ⟨ys, hy, _⟩ := hown
    exact hy.lt
  have hz8 : (w7.alloc (.cells cs 28)).heap.size = w7.heap.size + 1 := by simp
  have hlo : w.heap.size + 1 + 1 < wr.heap.size := by omega
  have hgo : w.heap.size + 1 + 1 ≠ g := by omega
  have o7 : w7.heap[w.heap.size + 1 + 1]? = some (.cells #[.int .i64 k, .string t, v, v2, .int .i64 q] 28 (0, 0)) := by rw [hbw.block _ hlo hgo]; exact ho
  have o8 : (w7.alloc (.cells cs 28)).heap[w.heap.size + 1 + 1]? = some (.cells #[.int .i64 k, .string t, v, v2, .int .i64 q] 28 (0, 0)) := by rw [hba.block _ hlo hgo]; exact ho
  refine ⟨xs, hown8, by rw [hz8]; omega, hbw.mono (by omega), hba.mono (by omega), by rw [Lib.cell_of_heap o7]; rfl, by rw [Lib.cell_of_heap o8]; rfl, fun v' w9 hown9 hg9 hv9 => ?_⟩
  have hB9 : But W5.heap.size g wr w9 := (hba.mono hs).grown hg9 (by rw [hz8]; omega) (fun k hk => (hvl k hk).1)
  have g9 : w9.heap[w.heap.size + 1 + 1]? = some (.cells #[.int .i64 k, .string t, v, v2, .int .i64 q] 28 (0, 0)) := by rw [hB9.block _ hs5 hgo]; exact ho
  have hG9 : w9.heap[g]? = some (.cells #[.int .i64 (l[j].next ns (Dt.nexts ns (l.take j) p1) : Nat)] 3 (0, 0)) := by
    rw [hg9.block g (by rw [hz8]; omega) (fun e => by have := (hvl g e.symm).1; omega), Lib.alloc_old _ _ _ (by omega)]; exact hg7
  refine ⟨hB9.mono (by omega), by rw [Lib.cell_of_heap g9]; rfl, frozen_of_row w9 (w.heap.size + 1 + 1) 3 _ 28 g9, (hB9.mono (show w.heap.size + 1 + 1 ≤ _ by omega)).setCell (p := ⟨w.heap.size + 1 + 1, 3, none⟩) (.inl (Nat.le_refl _)) v', ?_⟩
  refine ⟨j + 1, v', by omega, by congr 1, heap_setCell_same w9 _ 3 _ 28 v' g9, ?_, ?_, (hh.but hB9).setCell (p := ⟨w.heap.size + 1 + 1, 3, none⟩) rfl _⟩
  · refine OwnD.setCell ?_ (by show w.heap.size + 1 + 1 < _; omega) _
    rw [marksAll_take ns l j hlt]
    have hlx : xs.length = j * 5 := hown8.1
    refine OwnD.snoc hx8 (by rw [hlen]; exact hlx) h5 ?_ (by rw [hlen]; exact hown9) hg9 hv9
    have h1 := Dt.At.bound _ cs hat
    have h2 := Dt.At.keeps (Keeps.of_below ((Below.refl w7.heap.size w7).alloc (Nat.le_refl _) (.cells cs 28))) _ cs h1
    refine Dt.At.mono (fun b hb' => ⟨?_, ?_⟩) _ cs h2
    · have : WD.heap.size ≤ b := hb'.1; omega
    · intro e
      have := (hvl b e).2
      have : WD.heap.size ≤ b := hb'.1
      omega
  · rw [heap_setCell_other _ _ _ _ (by show g ≠ w.heap.size + 1 + 1; omega), nexts_take ns l j hlt]; exact hG9

set_option maxHeartbeats 4000000 in
theorem mark_list (N : Nat) (hN : N ≤ 1000000) (ih : ∀ (d : Dt), d.size ≤ N → ∀ (ns : List Int) (g p : Nat) (cs : Array Value) (ao : Option Addr) (len cap : Nat) (w : World), Dt.At (fun b => b ≠ g) w d cs → Sg g w ao len cap ns →
      w.heap[g]? = some (.cells #[.int .i64 p] 3 (0, 0)) → p + 5 * d.size ≤ 100000000 → Calls Try.prog 13 #[.agg cs, .slice ao len cap, .pointer (some ⟨g, 0, none⟩)] w (RetMark ns g d p w))
    (k : Int) (t : ByteArray) (ms : List Int) (l : List Dt) (q : Int) (ns : List Int) (g p : Nat) (hsz : Dt.sizes l ≤ N) (mv : Value) (hm1 : mv.oneCell' = true) (lo : Option Addr) (lc : Nat) (ao : Option Addr) (len cap : Nat) (w : World)
    (hL : LAt (fun b => b ≠ g) w (.slice lo l.length lc) l) (hS : Sg g w ao len cap ns) (hg : w.heap[g]? = some (.cells #[.int .i64 p] 3 (0, 0))) (hp : p + 5 * (1 + Dt.sizes l) ≤ 100000000) :
    Calls Try.prog 13 #[.agg #[.int .i64 k, .string t, mv, .slice lo l.length lc, .int .i64 q], .slice ao len cap, .pointer (some ⟨g, 0, none⟩)] w (RetMark ns g (.mk k t ms l q) p w) := by
  have hgl : g < w.heap.size := (Array.getElem?_eq_some_iff.1 hg).1
  have IH := Lib.hid ih
  have HL := Lib.hid hL
  have HS := Lib.hid hS
  have HG := Lib.hid hg
  have HP := Lib.hid hp
  have HZ := Lib.hid hsz
  clear ih hL hS hg hp hsz
  go_enter Try.func13, Try.ntmps13
  go_upto_region 1 with fail
  obtain ⟨W1, hW1⟩ : ∃ W1, W1 = (w.alloc (.cells #[.int .i64 k, .string t, mv, .slice lo l.length lc, .int .i64 q] 28)).alloc (.cells Z5 28) := ⟨_, rfl⟩
  have hs1 : W1.heap.size = w.heap.size + 1 + 1 := by rw [hW1]; simp
  have B1 : Below w.heap.size w W1 := by rw [hW1]; exact ((Below.refl _ _).alloc (Nat.le_refl _) _).alloc (by simp) _
  have g0 : W1.heap[w.heap.size]? = some (.cells #[.int .i64 k, .string t, mv, .slice lo l.length lc, .int .i64 q] 28 (0, 0)) := by rw [hW1]; exact (Lib.alloc_old _ _ _ (by simp)).trans (alloc_at w _)
  have g1 : W1.heap[w.heap.size + 1]? = some (.cells Z5 28 (0, 0)) := by
    have h := alloc_at (w.alloc (.cells #[.int .i64 k, .string t, mv, .slice lo l.length lc, .int .i64 q] 28)) (.cells Z5 28)
    rw [hW1]
    simpa using h
  change Code.wp Try.prog _ _ _ ((w.alloc (.cells #[.int .i64 k, .string t, mv, .slice lo l.length lc, .int .i64 q] 28)).alloc (.cells Z5 28))
  rw [← hW1]
  have gg : W1.heap[g]? = some (.cells #[.int .i64 p] 3 (0, 0)) := by rw [B1.block g hgl]; exact HG.out
  have c0 : W1.cell? ⟨w.heap.size, 0, none⟩ = some (.int .i64 k) := by rw [Lib.cell_of_heap g0]; rfl
  have c1 : W1.cell? ⟨w.heap.size, 1, none⟩ = some (.string t) := by rw [Lib.cell_of_heap g0]; rfl
  have c2 : W1.cell? ⟨g, 0, none⟩ = some (.int .i64 p) := by rw [Lib.cell_of_heap gg]; rfl
  have C0 := Lib.hid c0
  have C1 := Lib.hid c1
  have C2 := Lib.hid c2
  have G0 := Lib.hid g0
  have G1 := Lib.hid g1
  have GG := Lib.hid gg
  have BB1 := Lib.hid B1
  have HS1 := Lib.hid hs1
  clear c0 c1 c2 g0 g1 gg B1 hs1 hW1 HG
  refine wp_region_noPanic ?_
  refine wp_region_held_drew (S := Below (w.heap.size + 1 + 1) W1) (by kernel_rfl) ((Below.refl _ _).drew) (fun hHeld => ?_)
  obtain ⟨WD, hWD⟩ : ∃ WD, WD = W1.drew := ⟨_, rfl⟩
  have BD : Below (w.heap.size + 1 + 1) W1 WD := by rw [hWD]; exact (Below.refl _ _).drew
  have HSD := Lib.hid (show WD.heap.size = w.heap.size + 1 + 1 by rw [hWD]; exact HS1.out)
  have BDH := Lib.hid BD
  rw [← hWD] at hHeld ⊢
  clear BD hWD
  refine wpAnyH_take (i := 0) (v := Value.pointer (some ⟨w.heap.size, 0, none⟩)) rfl (by kernel_rfl) (by kernel_rfl) (by kernel_rfl) (fun _ _ _ h => h) (Or.inl ⟨rfl, fun w' hw' => ?_⟩) hHeld ?_
  · go_simp
  simp only [List.getElem_toArray, List.getElem_cons_succ, List.getElem_cons_zero, Act.put, List.setIfInBounds_toArray, List.set_cons_zero, List.set_cons_succ]
  refine wpAnyH_take (i := 1) (v := Value.int .i64 k) rfl (by kernel_rfl) (by kernel_rfl) (by kernel_rfl) (fun _ _ _ h => h) (Or.inl ⟨rfl, fun w' hw' => ?_⟩) hHeld ?_
  · have c := (hw'.cell (p := ⟨w.heap.size, 0, none⟩) (by show w.heap.size < _; omega)).trans C0.out; go_simp
  simp only [List.getElem_toArray, List.getElem_cons_succ, List.getElem_cons_zero, Act.put, List.setIfInBounds_toArray, List.set_cons_zero, List.set_cons_succ]
  refine wpAnyH_take (i := 2) (v := Value.pointer (some ⟨w.heap.size, 1, none⟩)) rfl (by kernel_rfl) (by kernel_rfl) (by kernel_rfl) (fun _ _ _ h => h) (Or.inl ⟨rfl, fun w' hw' => ?_⟩) hHeld ?_
  · go_simp
  simp only [List.getElem_toArray, List.getElem_cons_succ, List.getElem_cons_zero, Act.put, List.setIfInBounds_toArray, List.set_cons_zero, List.set_cons_succ]
  refine wpAnyH_take (i := 3) (v := Value.string t) rfl (by kernel_rfl) (by kernel_rfl) (by kernel_rfl) (fun _ _ _ h => h) (Or.inl ⟨rfl, fun w' hw' => ?_⟩) hHeld ?_
  · have c := (hw'.cell (p := ⟨w.heap.size, 1, none⟩) (by show w.heap.size < _; omega)).trans C1.out; go_simp
  simp only [List.getElem_toArray, List.getElem_cons_succ, List.getElem_cons_zero, Act.put, List.setIfInBounds_toArray, List.set_cons_zero, List.set_cons_succ]
  refine wpAnyH_take (i := 4) (v := Value.pointer (some ⟨g, 0, none⟩)) rfl (by kernel_rfl) (by kernel_rfl) (by kernel_rfl) (fun _ _ _ h => h) (Or.inl ⟨rfl, fun w' hw' => ?_⟩) hHeld ?_
  · go_simp
  simp only [List.getElem_toArray, List.getElem_cons_succ, List.getElem_cons_zero, Act.put, List.setIfInBounds_toArray, List.set_cons_zero, List.set_cons_succ]
  refine wpAnyH_take (i := 5) (v := Value.pointer (some ⟨g, 0, none⟩)) rfl (by kernel_rfl) (by kernel_rfl) (by kernel_rfl) (fun _ _ _ h => h) (Or.inl ⟨rfl, fun w' hw' => ?_⟩) hHeld ?_
  · go_simp
  simp only [List.getElem_toArray, List.getElem_cons_succ, List.getElem_cons_zero, Act.put, List.setIfInBounds_toArray, List.set_cons_zero, List.set_cons_succ]
  refine wpAnyH_take (i := 6) (v := Value.int .i64 p) rfl (by kernel_rfl) (by kernel_rfl) (by kernel_rfl) (fun _ _ _ h => h) (Or.inl ⟨rfl, fun w' hw' => ?_⟩) hHeld ?_
  · have c := (hw'.cell (p := ⟨g, 0, none⟩) (by show g < _; omega)).trans C2.out; go_simp
  simp only [List.getElem_toArray, List.getElem_cons_succ, List.getElem_cons_zero, Act.put, List.setIfInBounds_toArray, List.set_cons_zero, List.set_cons_succ]
  refine wpAnyH_take (i := 7) (v := Value.agg #[.int .i64 k, .string t, .slice none 0 0, .slice none 0 0, .int .i64 p]) rfl (by kernel_rfl) (by kernel_rfl) (by kernel_rfl) (fun _ _ _ h => h) (Or.inl ⟨rfl, fun w' hw' => ?_⟩) hHeld ?_
  · go_simp
  simp only [List.getElem_toArray, List.getElem_cons_succ, List.getElem_cons_zero, Act.put, List.setIfInBounds_toArray, List.set_cons_zero, List.set_cons_succ]
  refine wpAnyH_ready (rs := [8]) (by kernel_rfl) (by simp) ?_
  refine (AllReadyH.cons rfl (fun K hK => ?_) AllReadyH.nil)
  go_simp
  refine hK.out _ _ (hHeld.alloc (by rw [← HSD.out]; exact Nat.le_refl _) _) (fun hHeld => ?_)
  clear hK K
  try simp only [List.getElem_toArray, List.getElem_cons_succ, List.getElem_cons_zero, Act.put, List.setIfInBounds_toArray, List.set_cons_zero, List.set_cons_succ]
  refine wpAnyH_ready (rs := [9]) (by kernel_rfl) (by simp) ?_
  refine (AllReadyH.cons rfl (fun K hK => ?_) AllReadyH.nil)
  rw [if_pos (by rfl)]
  refine wp_store_row 28 _ _ rfl WD.heap.size #[.int .i64 k, .string t, .slice none 0 0, .slice none 0 0, .int .i64 p] rfl rfl 28 Z5 (alloc_at WD _) info28 rfl (by simp [Value.oneCell']) ?_
  have E0 : (WD.alloc (.cells #[.int .i64 0, .string ⟨#[]⟩, .slice none 0 0, .slice none 0 0, .int .i64 0] 28)).setRow WD.heap.size #[.int .i64 k, .string t, .slice none 0 0, .slice none 0 0, .int .i64 p] = WD.alloc (.cells #[.int .i64 k, .string t, .slice none 0 0, .slice none 0 0, .int .i64 p] 28) := setRow_new_at WD Z5 #[.int .i64 k, .string t, .slice none 0 0, .slice none 0 0, .int .i64 p] 28 WD.heap.size rfl
  rw [E0]
  clear E0
  refine hK.out _ _ ((BDH.out).alloc (by rw [← HSD.out]; exact Nat.le_refl _) _) (fun hHeld => ?_)
  clear hK K
  try simp only [List.getElem_toArray, List.getElem_cons_succ, List.getElem_cons_zero, Act.put, List.setIfInBounds_toArray, List.set_cons_zero, List.set_cons_succ]
  refine wpAnyH_done (by kernel_rfl) ?_ _
  refine NoPanic.normal ?_
  clear hHeld
  have HI : LInv1 ns g p k t p #[.int .i64 k, .string t, mv, .slice lo l.length lc, .int .i64 q] w (WD.alloc (.cells #[.int .i64 k, .string t, .slice none 0 0, .slice none 0 0, .int .i64 p] 28)) := by
    have b2 : Below (w.heap.size + 1 + 1) W1 (WD.alloc (.cells #[.int .i64 k, .string t, .slice none 0 0, .slice none 0 0, .int .i64 p] 28)) := BDH.out.alloc (by rw [← HSD.out]; exact Nat.le_refl _) _
    refine ⟨.slice none 0 0, [], by simp, by simp [mksTo, mksAt], World.ownsRow_nil _ _ _ _, ?_, ?_, ?_, ?_, ?_, ?_⟩
    · have h := alloc_at WD (.cells #[.int .i64 k, .string t, .slice none 0 0, .slice none 0 0, .int .i64 p] 28)
      have e : WD.heap.size = w.heap.size + 1 + 1 := HSD.out
      rw [e] at h; exact h
    · rw [b2.block _ (by omega)]; exact G1.out
    · rw [b2.block _ (by omega)]; exact G0.out
    · rw [b2.block _ (by omega)]; exact GG.out
    · exact But.of (BB1.out.trans (b2.mono (by omega)))
    · have e : WD.heap.size = w.heap.size + 1 + 1 := HSD.out
      simp [e]
  have HI := Lib.hid HI
  rw [HSD.out]
  generalize WD.alloc (.cells #[.int .i64 k, .string t, .slice none 0 0, .slice none 0 0, .int .i64 p] 28) = W2 at HI ⊢
  go_wp2_with fail
  rename_i K hK
  have REST : ∀ (u4 u5 u8 u9 u10 u11 u12 u13 u14 u15 u16 u17 u18 u19 u20 u21 u22 u23 u24 u25 u26 u27 u28 u29 u30 u31 u32 u33 u34 u35 u36 u37 u38 u39 u40 u41 u42 u43 u44 u45 u46 u47 u48 u49 u50 u51 u52 u53 u54 u55 u56 u57 u58 u59 u60 u61 u62 u63 u64 u65 u66 u67 u68 u69 u70 u71 u72 u73 u74 u75 u76 u77 u78 u79 u80 u81 u82 u83 u84 u85 u86 u87 : Value) (wr : World) (v : Value), Nums (w.heap.size + 1 + 1 + 1) wr v (mksAt ns k p) →
      wr.heap[w.heap.size + 1 + 1]? = some (.cells #[.int .i64 k, .string t, v, .slice none 0 0, .int .i64 p] 28 (0, 0)) → wr.heap[w.heap.size + 1]? = some (.cells Z5 28 (0, 0)) → wr.heap[w.heap.size]? = some (.cells #[.int .i64 k, .string t, mv, .slice lo l.length lc, .int .i64 q] 28 (0, 0)) →
      wr.heap[g]? = some (.cells #[.int .i64 (p + (mksAt ns k p).length : Nat)] 3 (0, 0)) → But w.heap.size g w wr → w.heap.size + 1 + 1 < wr.heap.size → K ⟨#[.agg #[.int .i64 k, .string t, mv, .slice lo l.length lc, .int .i64 q], .slice ao len cap, .pointer (some ⟨g, 0, none⟩), .pointer (some ⟨w.heap.size, 0, none⟩), u4, u5, .pointer (some ⟨w.heap.size + 1, 0, none⟩), .pointer (some ⟨w.heap.size + 1 + 1, 0, none⟩), u8, u9, u10, u11, u12, u13, u14, u15, u16, u17, u18, u19, u20, u21, u22, u23, u24, u25, u26, u27, u28, u29, u30, u31, u32, u33, u34, u35, u36, u37, u38, u39, u40, u41, u42, u43, u44, u45, u46, u47, u48, u49, u50, u51, u52, u53, u54, u55, u56, u57, u58, u59, u60, u61, u62, u63, u64, u65, u66, u67, u68, u69, u70, u71, u72, u73, u74, u75, u76, u77, u78, u79, u80, u81, u82, u83, u84, u85, u86, u87], []⟩ wr := by
    intro u4 u5 u8 u9 u10 u11 u12 u13 u14 u15 u16 u17 u18 u19 u20 u21 u22 u23 u24 u25 u26 u27 u28 u29 u30 u31 u32 u33 u34 u35 u36 u37 u38 u39 u40 u41 u42 u43 u44 u45 u46 u47 u48 u49 u50 u51 u52 u53 u54 u55 u56 u57 u58 u59 u60 u61 u62 u63 u64 u65 u66 u67 u68 u69 u70 u71 u72 u73 u74 u75 u76 u77 u78 u79 u80 u81 u82 u83 u84 u85 u86 u87 wr v hnum ho hz h0 hgc hbut hbs
    refine hK _ _ ?_
    clear hK K
    have hgp := HP.out
    obtain ⟨pm, hpm⟩ : ∃ pm, p + (mksAt ns k p).length = pm := ⟨_, rfl⟩
    have hpm2 : pm ≤ 100000000 := by have := mksAt_len ns k p; omega
    rw [hpm] at hgc
    have cg : wr.cell? ⟨g, 0, none⟩ = some (.int .i64 pm) := by rw [Lib.cell_of_heap hgc]; rfl
    have cf : wr.frozen? ⟨g, 0, none⟩ = false := frozen_of_row wr g 0 _ 3 hgc
    have hb5 : But (w.heap.size + 1 + 1) g wr (wr.setCell ⟨g, 0, none⟩ (.int .i64 ((pm : Int) + 1))) := (But.refl _ _ _).setCell (p := ⟨g, 0, none⟩) (.inr rfl) _
    have o5 : (wr.setCell ⟨g, 0, none⟩ (.int .i64 ((pm : Int) + 1))).heap[w.heap.size + 1 + 1]? = _ := (heap_setCell_other _ _ _ _ (by show w.heap.size + 1 + 1 ≠ g; omega)).trans ho
    have z5 : (wr.setCell ⟨g, 0, none⟩ (.int .i64 ((pm : Int) + 1))).heap[w.heap.size + 1]? = _ := (heap_setCell_other _ _ _ _ (by show w.heap.size + 1 ≠ g; omega)).trans hz
    have r5 : (wr.setCell ⟨g, 0, none⟩ (.int .i64 ((pm : Int) + 1))).heap[w.heap.size]? = _ := (heap_setCell_other _ _ _ _ (by show w.heap.size ≠ g; omega)).trans h0
    have g5 : (wr.setCell ⟨g, 0, none⟩ (.int .i64 ((pm : Int) + 1))).heap[g]? = some (.cells #[.int .i64 (pm + 1 : Nat)] 3 (0, 0)) := by
      have h := heap_setCell_same wr g 0 _ 3 (.int .i64 ((pm : Int) + 1)) hgc
      rw [h]; rfl
    have n5 : Nums (w.heap.size + 1 + 1 + 1) (wr.setCell ⟨g, 0, none⟩ (.int .i64 ((pm : Int) + 1))) v (mksAt ns k p) := ownsRow_setCell_below hnum (a := ⟨g, 0, none⟩) (by show g < _; omega) _
    have u5 : But w.heap.size g w (wr.setCell ⟨g, 0, none⟩ (.int .i64 ((pm : Int) + 1))) := hbut.trans (hb5.mono (by omega))
    have s5 : w.heap.size + 1 + 1 < (wr.setCell ⟨g, 0, none⟩ (.int .i64 ((pm : Int) + 1))).heap.size := Nat.lt_of_lt_of_le hbs hb5.size
    have O5 := Lib.hid o5
    have Z5H := Lib.hid z5
    have R5 := Lib.hid r5
    have G5 := Lib.hid g5
    have N5 := Lib.hid n5
    have U5 := Lib.hid u5
    have S5 := Lib.hid s5
    have HPM := Lib.hid hpm
    clear hnum ho hz h0 hgc hbut hbs hb5 o5 z5 r5 g5 n5 u5 s5 hpm
    go_wp2_with fail
    clear cg cf
    generalize wr.setCell ⟨g, 0, none⟩ (.int .i64 ((pm : Int) + 1)) = W5 at O5 Z5H R5 G5 N5 U5 S5 ⊢
    go_loopw [8] (fun iv wr => LInv2 ns g (pm + 1) l k t v p w W5 iv wr) (fun iv _ => l.length - (intOf iv).toNat)
    case atStart => exact ⟨0, .slice none 0 0, Nat.zero_le _, rfl, O5.out, OwnD.nil _ _, by simpa [Dt.nexts] using G5.out, Hole.refl _ _ _ _⟩
    case round =>
      obtain ⟨j, v2, hj, rfl, ho, hown, hgc, hh⟩ := hrel
      have hll := length_sizes l
      have hl1 : l.length ≤ 1000000 := by have := HZ.out; omega
      have r2 : wr.heap[w.heap.size]? = some (.cells #[.int .i64 k, .string t, mv, .slice lo l.length lc, .int .i64 q] 28 (0, 0)) := by rw [hh.block _ (by have := S5.out; omega) (by omega) (by omega)]; exact R5.out
      have z2 : wr.heap[w.heap.size + 1]? = some (.cells Z5 28 (0, 0)) := by rw [hh.block _ (by have := S5.out; omega) (by omega) (by omega)]; exact Z5H.out
      have cr : wr.cell? ⟨w.heap.size, 3, none⟩ = some (.slice lo l.length lc) := by rw [Lib.cell_of_heap r2]; rfl
      have hbw : But w.heap.size g w wr := U5.out.trans (hh.to (by have := S5.out; omega) (by omega))
      have HO := Lib.hid ho
      have OW := Lib.hid hown
      have HH := Lib.hid hh
      have GC := Lib.hid hgc
      have R2 := Lib.hid r2
      have Z2 := Lib.hid z2
      have CR := Lib.hid cr
      have BW := Lib.hid hbw
      clear ho hown hh hgc r2 z2 hbw hll
      by_cases hlt : j < l.length
      · have q1 : decide ((j : Int) < (l.length : Int)) = true := decide_eq_true (by omega)
        obtain ⟨b, o, k', t', mv', lv', p', rfl, hbg, ⟨bc, bfz, hbh⟩, hat, e0, e1, e2, e3, e4, o1, o2⟩ := HL.out.get j hlt
        have hbl : b < w.heap.size := (Array.getElem?_eq_some_iff.1 hbh).1
        have hsj := size_get l j hlt
        have hbn := nexts_le ns (l.take j) (pm + 1)
        have hbs := sizes_in l j hlt
        obtain ⟨pn, hpn⟩ : ∃ pn, Dt.nexts ns (l.take j) (pm + 1) = pn := ⟨_, rfl⟩
        have E0 := Lib.hid e0
        have E1 := Lib.hid e1
        have E2 := Lib.hid e2
        have E3 := Lib.hid e3
        have E4 := Lib.hid e4
        have HAT := Lib.hid hat
        clear e0 e1 e2 e3 e4 hat hbh
        go_upto_region 9 with fail
        clear cr
        obtain ⟨WD, hWD⟩ : ∃ WD, WD = wr.drew := ⟨_, rfl⟩
        have bd : Below wr.heap.size wr WD := by rw [hWD]; exact (Below.refl _ _).drew
        have hsd : WD.heap.size = wr.heap.size := by rw [hWD]; rfl
        have BD := Lib.hid bd
        have SD := Lib.hid hsd
        have hgw2 : g < wr.heap.size := by have := BW.out.size; omega
        have hso : w.heap.size + 1 + 1 < wr.heap.size := by have := HH.out.size; have := S5.out; omega
        have CO' := Lib.hid (show WD.cell? ⟨w.heap.size + 1 + 1, 3, none⟩ = some v2 by rw [BD.out.cell (p := ⟨w.heap.size + 1 + 1, 3, none⟩) (by show w.heap.size + 1 + 1 < _; omega), Lib.cell_of_heap HO.out]; rfl)
        have bwd : But w.heap.size g w WD := BW.out.trans ((But.of bd).mono BW.out.size)
        have HX := Lib.hid (IH.out l[j] (by have := HZ.out; omega) ns g pn #[.int .i64 k', .string t', mv', lv', .int .i64 p'] ao len cap WD (Dt.At.keeps (bwd.keeps (fun _ h => h)) _ _ HAT.out) (HS.out.but bwd)
          (by rw [bd.block g hgw2, ← hpn]; exact GC.out) (by rw [← hpn]; have := mksAt_len ns k p; have := HPM.out; omega))
        refine wp_region_noPanic ?_
        refine wp_region_held_drew (S := But (w.heap.size + 1 + 1) g wr) (by kernel_rfl) ((But.refl _ _ _).drew) (fun hHeld => ?_)
        rw [← hWD] at hHeld ⊢
        clear bd hWD hsd bwd
        refine wpAnyH_take (i := 0) (v := Value.pointer (some ⟨w.heap.size + 1 + 1, 3, none⟩)) rfl (by kernel_rfl) (by kernel_rfl) (by kernel_rfl) (fun _ _ _ h => h) (Or.inl ⟨rfl, fun w' hw' => ?_⟩) hHeld ?_
        · go_simp
        simp only [List.getElem_toArray, List.getElem_cons_succ, List.getElem_cons_zero, Act.put, List.setIfInBounds_toArray, List.set_cons_zero, List.set_cons_succ]
        refine wpAnyH_take (i := 2) (v := Value.pointer (some ⟨w.heap.size, 3, none⟩)) rfl (by kernel_rfl) (by kernel_rfl) (by kernel_rfl) (fun _ _ _ h => h) (Or.inl ⟨rfl, fun w' hw' => ?_⟩) hHeld ?_
        · go_simp
        simp only [List.getElem_toArray, List.getElem_cons_succ, List.getElem_cons_zero, Act.put, List.setIfInBounds_toArray, List.set_cons_zero, List.set_cons_succ]
        refine wpAnyH_take (i := 3) (v := Value.slice (some ⟨b, o, none⟩) l.length lc) rfl (by kernel_rfl) (by kernel_rfl) (by kernel_rfl) (fun _ _ _ h => h) (Or.inl ⟨rfl, fun w' hw' => ?_⟩) hHeld ?_
        · have c := (hw'.cell (p := ⟨w.heap.size, 3, none⟩) (by show w.heap.size < _; omega) (by show w.heap.size ≠ _; omega)).trans CR.out; go_simp
        simp only [List.getElem_toArray, List.getElem_cons_succ, List.getElem_cons_zero, Act.put, List.setIfInBounds_toArray, List.set_cons_zero, List.set_cons_succ]
        refine wpAnyH_take (i := 4) (v := Value.int .i64 j) rfl (by kernel_rfl) (by kernel_rfl) (by kernel_rfl) (fun _ _ _ h => h) (Or.inl ⟨rfl, fun w' hw' => ?_⟩) hHeld ?_
        · go_simp
        simp only [List.getElem_toArray, List.getElem_cons_succ, List.getElem_cons_zero, Act.put, List.setIfInBounds_toArray, List.set_cons_zero, List.set_cons_succ]
        refine wpAnyH_take (i := 5) (v := Value.pointer (some ⟨b, o + j * 5, none⟩)) rfl (by kernel_rfl) (by kernel_rfl) (by kernel_rfl) (fun _ _ _ h => h) (Or.inl ⟨rfl, fun w' hw' => ?_⟩) hHeld ?_
        · go_simp
        simp only [List.getElem_toArray, List.getElem_cons_succ, List.getElem_cons_zero, Act.put, List.setIfInBounds_toArray, List.set_cons_zero, List.set_cons_succ]
        refine wpAnyH_take (i := 6) rfl (by kernel_rfl) (by kernel_rfl) (by kernel_rfl) (fun _ _ _ h => h) (yieldsIf_load_mid (by rfl) _ _ rfl b (o + j * 5) rfl [.int .i64 k', .string t', mv', lv', .int .i64 p'] _ (fun w' hw' => range5 (fun a ha hb => (hw'.cell (by omega) (by rw [ha]; exact hbg)).trans (BW.out.cell (by omega) (by rw [ha]; exact hbg))) hbl E0.out E1.out E2.out E3.out E4.out) Try.underlying28 rfl info28) hHeld ?_
        simp only [List.getElem_toArray, List.getElem_cons_succ, List.getElem_cons_zero, Act.put, List.setIfInBounds_toArray, List.set_cons_zero, List.set_cons_succ]
        refine wpAnyH_take (i := 7) (v := Value.slice ao len cap) rfl (by kernel_rfl) (by kernel_rfl) (by kernel_rfl) (fun _ _ _ h => h) (Or.inl ⟨rfl, fun w' hw' => ?_⟩) hHeld ?_
        · go_simp
        simp only [List.getElem_toArray, List.getElem_cons_succ, List.getElem_cons_zero, Act.put, List.setIfInBounds_toArray, List.set_cons_zero, List.set_cons_succ]
        refine wpAnyH_take (i := 8) (v := Value.pointer (some ⟨g, 0, none⟩)) rfl (by kernel_rfl) (by kernel_rfl) (by kernel_rfl) (fun _ _ _ h => h) (Or.inl ⟨rfl, fun w' hw' => ?_⟩) hHeld ?_
        · go_simp
        simp only [List.getElem_toArray, List.getElem_cons_succ, List.getElem_cons_zero, Act.put, List.setIfInBounds_toArray, List.set_cons_zero, List.set_cons_succ]
        refine wpAnyH_ready (rs := [1, 9]) (by kernel_rfl) (by simp) ?_
        refine (AllReadyH.cons rfl (fun K hK => ?_) (AllReadyH.cons rfl (fun K hK => ?_) AllReadyH.nil))
        · skip
          have c45 := CO'.out
          go_simp
          refine hK.out _ _ hHeld (fun hHeld => ?_)
          clear hK K c45
          try simp only [List.getElem_toArray, List.getElem_cons_succ, List.getElem_cons_zero, Act.put, List.setIfInBounds_toArray, List.set_cons_zero, List.set_cons_succ]
          refine wpAnyH_ready (rs := [9]) (by kernel_rfl) (by simp) ?_
          refine (AllReadyH.cons rfl (fun K hK => ?_) AllReadyH.nil)
          go_simp
          refine HX.out.mono ?_
          rintro e w7 ⟨cs, rfl, hat, hb, hg7⟩
          obtain ⟨k5, t5, mv5, lv5, p5, rfl, o3, o4⟩ := At_form hat
          obtain ⟨xs, hown8, hz8, hS7, hS8, c7, c8, hnx⟩ := part_more (q := p) hlt hl1 hgl S5.out HO.out OW.out HH.out BD.out SD.out (by rw [hpn]; exact hat) hb (by rw [hpn]; exact hg7) rfl
          have HN := Lib.hid hnx
          have HO8 := Lib.hid hown8
          have HS8 := Lib.hid hS8
          have C7 := Lib.hid c7
          have C8 := Lib.hid c8
          refine hK.out _ _ hS7 (fun hHeld => ?_)
          clear hK K hat hb hg7 hown8 hnx hS7 hS8 c7 c8
          try simp only [List.getElem_toArray, List.getElem_cons_succ, List.getElem_cons_zero, Act.put, List.setIfInBounds_toArray, List.set_cons_zero, List.set_cons_succ]
          refine wpAnyH_ready (rs := [10]) (by kernel_rfl) (by simp) ?_
          refine (AllReadyH.cons rfl (fun K hK => ?_) AllReadyH.nil)
          go_simp
          refine hK.out _ _ HS8.out (fun hHeld => ?_)
          clear hK K
          try simp only [List.getElem_toArray, List.getElem_cons_succ, List.getElem_cons_zero, Act.put, List.setIfInBounds_toArray, List.set_cons_zero, List.set_cons_succ]
          refine wpAnyH_ready (rs := [11]) (by kernel_rfl) (by simp) ?_
          refine (AllReadyH.cons rfl (fun K hK => ?_) AllReadyH.nil)
          rw [if_pos (by rfl)]
          refine wp_app (Operand.tmp 75) (Operand.tmp 84) rfl W5.heap.size v2 j xs rfl HO8.out w7.heap.size 1 rfl [.int .i64 k5, .string t5, mv5, lv5, .int .i64 p5] rfl (fun i u hu => ?_) (by simp; exact ⟨rfl, rfl, o3, o4, rfl⟩) (by omega) hz8 ?_
          · rw [Lib.cell_of_heap (alloc_at w7 (.cells #[.int .i64 k5, .string t5, mv5, lv5, .int .i64 p5] 28))]; simpa using hu
          intro v' w9 hown9 hg9 hv9
          obtain ⟨so, sn, sc, rfl⟩ := own_form hown9
          obtain ⟨hS9, cc, cf, hS10, hM⟩ := HN.out _ w9 hown9 hg9 hv9
          have HM := Lib.hid hM
          have HS10 := Lib.hid hS10
          have CC := Lib.hid cc
          have CF := Lib.hid cf
          refine hK.out _ _ hS9 (fun hHeld => ?_)
          clear hK K hown9 hg9 hv9 hS10 hM HN HO8 hS9 cc cf
          try simp only [List.getElem_toArray, List.getElem_cons_succ, List.getElem_cons_zero, Act.put, List.setIfInBounds_toArray, List.set_cons_zero, List.set_cons_succ]
          refine wpAnyH_take (i := 12) (v := Value.pointer (some ⟨w.heap.size + 1 + 1, 3, none⟩)) rfl (by kernel_rfl) (by kernel_rfl) (by kernel_rfl) (fun _ _ _ h => h) (Or.inl ⟨rfl, fun w' hw' => ?_⟩) hHeld ?_
          · go_simp
          simp only [List.getElem_toArray, List.getElem_cons_succ, List.getElem_cons_zero, Act.put, List.setIfInBounds_toArray, List.set_cons_zero, List.set_cons_succ]
          refine wpAnyH_ready (rs := [13]) (by kernel_rfl) (by simp) ?_
          refine (AllReadyH.cons rfl (fun K hK => ?_) AllReadyH.nil)
          have cc := CC.out
          have cf := CF.out
          go_simp
          refine hK.out _ _ HS10.out (fun hHeld => ?_)
          clear hK K cc cf
          try simp only [List.getElem_toArray, List.getElem_cons_succ, List.getElem_cons_zero, Act.put, List.setIfInBounds_toArray, List.set_cons_zero, List.set_cons_succ]
          refine wpAnyH_done (by kernel_rfl) ?_ _
          refine NoPanic.normal ?_
          clear hHeld
          go_wp2_with fail
          go_roundw
          case rel => exact HM.out
          case measure => simp [intOf]; omega
        · skip
          go_simp
          refine HX.out.mono ?_
          rintro e w7 ⟨cs, rfl, hat, hb, hg7⟩
          obtain ⟨k5, t5, mv5, lv5, p5, rfl, o3, o4⟩ := At_form hat
          obtain ⟨xs, hown8, hz8, hS7, hS8, c7, c8, hnx⟩ := part_more (q := p) hlt hl1 hgl S5.out HO.out OW.out HH.out BD.out SD.out (by rw [hpn]; exact hat) hb (by rw [hpn]; exact hg7) rfl
          have HN := Lib.hid hnx
          have HO8 := Lib.hid hown8
          have HS8 := Lib.hid hS8
          have C7 := Lib.hid c7
          have C8 := Lib.hid c8
          refine hK.out _ _ hS7 (fun hHeld => ?_)
          clear hK K hat hb hg7 hown8 hnx hS7 hS8 c7 c8
          try simp only [List.getElem_toArray, List.getElem_cons_succ, List.getElem_cons_zero, Act.put, List.setIfInBounds_toArray, List.set_cons_zero, List.set_cons_succ]
          refine wpAnyH_ready (rs := [1, 10]) (by kernel_rfl) (by simp) ?_
          refine (AllReadyH.cons rfl (fun K hK => ?_) (AllReadyH.cons rfl (fun K hK => ?_) AllReadyH.nil))
          · skip
            have c45 := C7.out
            go_simp
            refine hK.out _ _ hHeld (fun hHeld => ?_)
            clear hK K c45
            try simp only [List.getElem_toArray, List.getElem_cons_succ, List.getElem_cons_zero, Act.put, List.setIfInBounds_toArray, List.set_cons_zero, List.set_cons_succ]
            refine wpAnyH_ready (rs := [10]) (by kernel_rfl) (by simp) ?_
            refine (AllReadyH.cons rfl (fun K hK => ?_) AllReadyH.nil)
            go_simp
            refine hK.out _ _ HS8.out (fun hHeld => ?_)
            clear hK K
            try simp only [List.getElem_toArray, List.getElem_cons_succ, List.getElem_cons_zero, Act.put, List.setIfInBounds_toArray, List.set_cons_zero, List.set_cons_succ]
            refine wpAnyH_ready (rs := [11]) (by kernel_rfl) (by simp) ?_
            refine (AllReadyH.cons rfl (fun K hK => ?_) AllReadyH.nil)
            rw [if_pos (by rfl)]
            refine wp_app (Operand.tmp 75) (Operand.tmp 84) rfl W5.heap.size v2 j xs rfl HO8.out w7.heap.size 1 rfl [.int .i64 k5, .string t5, mv5, lv5, .int .i64 p5] rfl (fun i u hu => ?_) (by simp; exact ⟨rfl, rfl, o3, o4, rfl⟩) (by omega) hz8 ?_
            · rw [Lib.cell_of_heap (alloc_at w7 (.cells #[.int .i64 k5, .string t5, mv5, lv5, .int .i64 p5] 28))]; simpa using hu
            intro v' w9 hown9 hg9 hv9
            obtain ⟨so, sn, sc, rfl⟩ := own_form hown9
            obtain ⟨hS9, cc, cf, hS10, hM⟩ := HN.out _ w9 hown9 hg9 hv9
            have HM := Lib.hid hM
            have HS10 := Lib.hid hS10
            have CC := Lib.hid cc
            have CF := Lib.hid cf
            refine hK.out _ _ hS9 (fun hHeld => ?_)
            clear hK K hown9 hg9 hv9 hS10 hM HN HO8 hS9 cc cf
            try simp only [List.getElem_toArray, List.getElem_cons_succ, List.getElem_cons_zero, Act.put, List.setIfInBounds_toArray, List.set_cons_zero, List.set_cons_succ]
            refine wpAnyH_take (i := 12) (v := Value.pointer (some ⟨w.heap.size + 1 + 1, 3, none⟩)) rfl (by kernel_rfl) (by kernel_rfl) (by kernel_rfl) (fun _ _ _ h => h) (Or.inl ⟨rfl, fun w' hw' => ?_⟩) hHeld ?_
            · go_simp
            simp only [List.getElem_toArray, List.getElem_cons_succ, List.getElem_cons_zero, Act.put, List.setIfInBounds_toArray, List.set_cons_zero, List.set_cons_succ]
            refine wpAnyH_ready (rs := [13]) (by kernel_rfl) (by simp) ?_
            refine (AllReadyH.cons rfl (fun K hK => ?_) AllReadyH.nil)
            have cc := CC.out
            have cf := CF.out
            go_simp
            refine hK.out _ _ HS10.out (fun hHeld => ?_)
            clear hK K cc cf
            try simp only [List.getElem_toArray, List.getElem_cons_succ, List.getElem_cons_zero, Act.put, List.setIfInBounds_toArray, List.set_cons_zero, List.set_cons_succ]
            refine wpAnyH_done (by kernel_rfl) ?_ _
            refine NoPanic.normal ?_
            clear hHeld
            go_wp2_with fail
            go_roundw
            case rel => exact HM.out
            case measure => simp [intOf]; omega
          · skip
            go_simp
            refine hK.out _ _ HS8.out (fun hHeld => ?_)
            clear hK K
            try simp only [List.getElem_toArray, List.getElem_cons_succ, List.getElem_cons_zero, Act.put, List.setIfInBounds_toArray, List.set_cons_zero, List.set_cons_succ]
            refine wpAnyH_ready (rs := [1]) (by kernel_rfl) (by simp) ?_
            refine (AllReadyH.cons rfl (fun K hK => ?_) AllReadyH.nil)
            have c45 := C8.out
            go_simp
            refine hK.out _ _ hHeld (fun hHeld => ?_)
            clear hK K c45
            try simp only [List.getElem_toArray, List.getElem_cons_succ, List.getElem_cons_zero, Act.put, List.setIfInBounds_toArray, List.set_cons_zero, List.set_cons_succ]
            refine wpAnyH_ready (rs := [11]) (by kernel_rfl) (by simp) ?_
            refine (AllReadyH.cons rfl (fun K hK => ?_) AllReadyH.nil)
            rw [if_pos (by rfl)]
            refine wp_app (Operand.tmp 75) (Operand.tmp 84) rfl W5.heap.size v2 j xs rfl HO8.out w7.heap.size 1 rfl [.int .i64 k5, .string t5, mv5, lv5, .int .i64 p5] rfl (fun i u hu => ?_) (by simp; exact ⟨rfl, rfl, o3, o4, rfl⟩) (by omega) hz8 ?_
            · rw [Lib.cell_of_heap (alloc_at w7 (.cells #[.int .i64 k5, .string t5, mv5, lv5, .int .i64 p5] 28))]; simpa using hu
            intro v' w9 hown9 hg9 hv9
            obtain ⟨so, sn, sc, rfl⟩ := own_form hown9
            obtain ⟨hS9, cc, cf, hS10, hM⟩ := HN.out _ w9 hown9 hg9 hv9
            have HM := Lib.hid hM
            have HS10 := Lib.hid hS10
            have CC := Lib.hid cc
            have CF := Lib.hid cf
            refine hK.out _ _ hS9 (fun hHeld => ?_)
            clear hK K hown9 hg9 hv9 hS10 hM HN HO8 hS9 cc cf
            try simp only [List.getElem_toArray, List.getElem_cons_succ, List.getElem_cons_zero, Act.put, List.setIfInBounds_toArray, List.set_cons_zero, List.set_cons_succ]
            refine wpAnyH_take (i := 12) (v := Value.pointer (some ⟨w.heap.size + 1 + 1, 3, none⟩)) rfl (by kernel_rfl) (by kernel_rfl) (by kernel_rfl) (fun _ _ _ h => h) (Or.inl ⟨rfl, fun w' hw' => ?_⟩) hHeld ?_
            · go_simp
            simp only [List.getElem_toArray, List.getElem_cons_succ, List.getElem_cons_zero, Act.put, List.setIfInBounds_toArray, List.set_cons_zero, List.set_cons_succ]
            refine wpAnyH_ready (rs := [13]) (by kernel_rfl) (by simp) ?_
            refine (AllReadyH.cons rfl (fun K hK => ?_) AllReadyH.nil)
            have cc := CC.out
            have cf := CF.out
            go_simp
            refine hK.out _ _ HS10.out (fun hHeld => ?_)
            clear hK K cc cf
            try simp only [List.getElem_toArray, List.getElem_cons_succ, List.getElem_cons_zero, Act.put, List.setIfInBounds_toArray, List.set_cons_zero, List.set_cons_succ]
            refine wpAnyH_done (by kernel_rfl) ?_ _
            refine NoPanic.normal ?_
            clear hHeld
            go_wp2_with fail
            go_roundw
            case rel => exact HM.out
            case measure => simp [intOf]; omega
      · obtain rfl : j = l.length := by omega
        have q1 : decide ((l.length : Int) < (l.length : Int)) = false := decide_eq_false (by omega)
        have hO' := OW.out
        have hG' := GC.out
        rw [List.take_length] at hO' hG'
        have OW' := Lib.hid hO'
        have GC' := Lib.hid hG'
        have hv1 : v.oneCell' = true := by obtain ⟨_, _, rfl⟩ := nums_form N5.out; rfl
        clear hO' hG' OW GC hlt
        go_wp2_with (first | (refine wpList_load_row rfl 28 _ rfl (w.heap.size + 1 + 1) rfl 28 #[.int .i64 k, .string t, v, v2, .int .i64 p] (0, 0) _ HO.out Try.underlying28 rfl info28 ?_) | (refine wpList_store_row rfl 28 _ _ rfl (w.heap.size + 1) #[.int .i64 k, .string t, v, v2, .int .i64 p] rfl rfl 28 Z5 Z2.out info28 rfl (by simp [Value.oneCell']; exact ⟨hv1, OW'.out.at.one⟩) ?_))
        refine bodyPost_ret (results_cell_row rfl _ _ (w.heap.size + 1) 28 #[.int .i64 k, .string t, v, v2, .int .i64 p] (0, 0) _ rfl (setRow_heap wr _ _ _ 28 _ Z2.out) Try.underlying28 rfl info28) rfl ?_
        have hs2 := HH.out.size
        have hs5 := S5.out
        have kp : ∀ S : Nat → Prop, (∀ x, S x → w.heap.size + 1 + 1 + 1 ≤ x) → Keeps S wr (wr.setRow (w.heap.size + 1) #[.int .i64 k, .string t, v, v2, .int .i64 p]) := by
          intro S hS x c T fz hx hg _
          exact ⟨fz, by rw [setRow_other wr _ x _ (by have := hS x hx; omega)]; exact hg⟩
        refine ⟨_, rfl, ?_, ?_, ?_⟩
        · simp only [Dt.mark]
          rw [At_mk]
          refine ⟨_, _, rfl, ?_, ?_⟩
          · have h1 := (N5.out.at (by have := mksAt_len ns k p; omega)).bound
            have h2 : MAt (fun x => w.heap.size + 1 + 1 + 1 ≤ x ∧ x < W5.heap.size) wr v (mksAt ns k p) := h1.keeps (fun x c T fz hx hg _ => ⟨fz, by rw [HH.out.block x hx.2 (by have := hx.1; omega) (by have := hx.1; omega)]; exact hg⟩)
            exact (h2.keeps (kp _ (fun x hx => hx.1))).mono (fun x hx => by have := hx.1; omega)
          · rw [HPM.out]
            exact LAt.mono (LAt.keeps OW'.out.at (kp _ (fun x hx => by have : W5.heap.size ≤ x := hx; omega))) (fun x hx => by have : W5.heap.size ≤ x := hx; omega)
        · refine BW.out.trans (But.of (below_setRow (Below.refl _ _) _ _ (by omega)))
        · rw [setRow_other wr _ g _ (by omega)]
          simp only [Dt.next]
          rw [HPM.out]; exact GC'.out
  replace REST := Lib.hid REST
  clear hK C0 C1 C2 G0 G1 GG BB1 HS1 HSD BDH hHeld
  go_loopw [] (fun wr => LInv1 ns g p k t p #[.int .i64 k, .string t, mv, .slice lo l.length lc, .int .i64 q] w wr) (fun wr => 4 - mlen wr (w.heap.size + 1 + 1))
  case atStart => exact HI.out
  case round =>
    clear HI
    obtain ⟨v, made, hm4, hme, hnum, ho, hz, h0, hgc, hbut, hbs⟩ := hrel
    obtain ⟨vo, vc, rfl⟩ := nums_form hnum
    have hl1 := HP.out
    have c0 : wr.cell? ⟨w.heap.size, 0, none⟩ = some (.int .i64 k) := by rw [Lib.cell_of_heap h0]; rfl
    have cg : wr.cell? ⟨g, 0, none⟩ = some (.int .i64 (p + made.length : Nat)) := by rw [Lib.cell_of_heap hgc]; rfl
    have co : wr.cell? ⟨w.heap.size + 1 + 1, 2, none⟩ = some (.slice vo made.length vc) := by rw [Lib.cell_of_heap ho]; rfl
    have NU := Lib.hid hnum
    have HO := Lib.hid ho
    have HZ0 := Lib.hid hz
    have H0 := Lib.hid h0
    have GC := Lib.hid hgc
    have BU := Lib.hid hbut
    have HM := Lib.hid hme
    obtain ⟨S1, S2, S3⟩ := HS.out.but BU.out
    have S2 := Lib.hid S2
    have S3 := Lib.hid S3
    clear hnum ho hz h0 hgc hbut hme
    obtain ⟨pj, hpj⟩ : ∃ pj, p + made.length = pj := ⟨_, rfl⟩
    have HPJ := Lib.hid hpj
    rw [hpj] at cg GC
    by_cases hk : k = 3
    · have q0 : (k == 3) = true := by rw [beq_iff_eq]; exact hk
      have HK := Lib.hid hk
      clear hk
      by_cases hlen : pj < len
      · have q1 : decide ((pj : Int) < (len : Int)) = true := decide_eq_true (by omega)
        have hlt : pj < ns.length := by omega
        obtain ⟨x, rfl, hxg, hxb, hxc⟩ : ∃ x, ao = some x ∧ x.block ≠ g ∧ x.block < w.heap.size ∧ ∀ j (h : j < ns.length), wr.cell? (x.add j) = some (.int .i64 ns[j]) := by
          rcases HS.out.2.2 with ⟨_, h, _⟩ | ⟨x, e, h1, h2⟩
          · omega
          · have hb := World.block_lt_of_cell? w _ (h2 pj hlt)
            rw [add_block] at hb
            exact ⟨x, e, h1 (by omega), hb, fun j hj => by rw [BU.out.cell (by rw [add_block]; exact hb) (by rw [add_block]; exact h1 (by omega))]; exact h2 j hj⟩
        obtain ⟨z, hz⟩ : ∃ z, ns[pj] = z := ⟨_, rfl⟩
        have cz : wr.cell? (x.add pj) = some (.int .i64 z) := by rw [hxc pj hlt, hz]
        have iz : I64 z := by rw [← hz]; exact S2.out pj hlt
        obtain ⟨x3, hx3⟩ : ∃ x3, z % 3 = x3 := ⟨_, rfl⟩
        obtain ⟨x5, hx5⟩ : ∃ x5, z % 5 = x5 := ⟨_, rfl⟩
        have F3 := Lib.hid (fun w => within_is z 3 x3 iz (by decide) (by decide) hx3 w)
        have F5 := Lib.hid (fun w => within_is z 5 x5 iz (by decide) (by decide) hx5 w)
        have r3 : 0 ≤ x3 := by omega
        have r5 : 0 ≤ x5 ∧ x5 < 5 := by omega
        have HXC := Lib.hid hxc
        clear hxc iz
        by_cases hpos : 0 < x3
        · have q2 : decide ((0 : Int) < x3) = true := decide_eq_true hpos
          by_cases h4 : made.length < 4
          · have q3 : decide ((made.length : Int) < 4) = true := decide_eq_true (by omega)
            have hy : mksTo ns k (4 - made.length) (p + made.length) = (1 + x5) :: mksTo ns k (4 - (made.length + 1)) (p + (made.length + 1)) := by
              unfold mksTo
              rw [if_pos HK.out, if_pos HK.out, show 4 - made.length = (4 - (made.length + 1)) + 1 by omega, mks, dif_pos (by omega)]
              have e : ns[p + made.length]'(by omega) = z := by rw [← hz]; congr 1
              rw [e, hx3, if_pos hpos, hx5]; rfl
            have HY := Lib.hid hy
            have CZ := Lib.hid cz
            have XB := Lib.hid (show x.block < w.heap.size + 1 + 1 by omega)
            have CO := Lib.hid co
            have CG := Lib.hid cg
            clear hy hz hx3 hx5
            go_wp2_with fail
            refine (F3.out _).mono ?_
            rintro e w1 ⟨rfl, rfl⟩
            go_upto_region 3 with fail
            have hwl : wr.heap.size ≤ wr.drew.heap.size := Nat.le_refl _
            obtain ⟨WD, hWD⟩ : ∃ WD, WD = wr.drew := ⟨_, rfl⟩
            have bd : Below wr.heap.size wr WD := by rw [hWD]; exact (Below.refl _ _).drew
            have BD := Lib.hid bd
            have CO' := Lib.hid (show WD.cell? ⟨w.heap.size + 1 + 1, 2, none⟩ = some (.slice vo made.length vc) by rw [BD.out.cell (p := ⟨w.heap.size + 1 + 1, 2, none⟩) (by show w.heap.size + 1 + 1 < _; omega)]; exact CO.out)
            refine wp_region_noPanic ?_
            refine wp_region_held_drew (S := Below (w.heap.size + 1 + 1) wr) (by kernel_rfl) ((Below.refl _ _).drew) (fun hHeld => ?_)
            rw [← hWD] at hHeld ⊢
            clear bd hwl hWD
            refine wpAnyH_take (i := 0) (v := Value.pointer (some ⟨w.heap.size + 1 + 1, 2, none⟩)) rfl (by kernel_rfl) (by kernel_rfl) (by kernel_rfl) (fun _ _ _ h => h) (Or.inl ⟨rfl, fun w' hw' => ?_⟩) hHeld ?_
            · go_simp
            simp only [List.getElem_toArray, List.getElem_cons_succ, List.getElem_cons_zero, Act.put, List.setIfInBounds_toArray, List.set_cons_zero, List.set_cons_succ]
            refine wpAnyH_take (i := 2) (v := Value.slice (some x) len cap) rfl (by kernel_rfl) (by kernel_rfl) (by kernel_rfl) (fun _ _ _ h => h) (Or.inl ⟨rfl, fun w' hw' => ?_⟩) hHeld ?_
            · go_simp
            simp only [List.getElem_toArray, List.getElem_cons_succ, List.getElem_cons_zero, Act.put, List.setIfInBounds_toArray, List.set_cons_zero, List.set_cons_succ]
            refine wpAnyH_take (i := 3) (v := Value.pointer (some ⟨g, 0, none⟩)) rfl (by kernel_rfl) (by kernel_rfl) (by kernel_rfl) (fun _ _ _ h => h) (Or.inl ⟨rfl, fun w' hw' => ?_⟩) hHeld ?_
            · go_simp
            simp only [List.getElem_toArray, List.getElem_cons_succ, List.getElem_cons_zero, Act.put, List.setIfInBounds_toArray, List.set_cons_zero, List.set_cons_succ]
            refine wpAnyH_take (i := 4) (v := Value.pointer (some ⟨g, 0, none⟩)) rfl (by kernel_rfl) (by kernel_rfl) (by kernel_rfl) (fun _ _ _ h => h) (Or.inl ⟨rfl, fun w' hw' => ?_⟩) hHeld ?_
            · go_simp
            simp only [List.getElem_toArray, List.getElem_cons_succ, List.getElem_cons_zero, Act.put, List.setIfInBounds_toArray, List.set_cons_zero, List.set_cons_succ]
            refine wpAnyH_take (i := 5) (v := Value.int .i64 pj) rfl (by kernel_rfl) (by kernel_rfl) (by kernel_rfl) (fun _ _ _ h => h) (Or.inl ⟨rfl, fun w' hw' => ?_⟩) hHeld ?_
            · have c := (hw'.cell (p := ⟨g, 0, none⟩) (by show g < _; omega)).trans CG.out; go_simp
            simp only [List.getElem_toArray, List.getElem_cons_succ, List.getElem_cons_zero, Act.put, List.setIfInBounds_toArray, List.set_cons_zero, List.set_cons_succ]
            refine wpAnyH_take (i := 6) (v := Value.pointer (some (x.add pj))) rfl (by kernel_rfl) (by kernel_rfl) (by kernel_rfl) (fun _ _ _ h => h) (Or.inl ⟨rfl, fun w' hw' => ?_⟩) hHeld ?_
            · go_simp
            simp only [List.getElem_toArray, List.getElem_cons_succ, List.getElem_cons_zero, Act.put, List.setIfInBounds_toArray, List.set_cons_zero, List.set_cons_succ]
            refine wpAnyH_take (i := 7) (v := Value.int .i64 z) rfl (by kernel_rfl) (by kernel_rfl) (by kernel_rfl) (fun _ _ _ h => h) (Or.inl ⟨rfl, fun w' hw' => ?_⟩) hHeld ?_
            · have c := (hw'.cell (p := x.add pj) (by rw [add_block]; exact XB.out)).trans CZ.out; go_simp
            simp only [List.getElem_toArray, List.getElem_cons_succ, List.getElem_cons_zero, Act.put, List.setIfInBounds_toArray, List.set_cons_zero, List.set_cons_succ]
            refine wpAnyH_ready (rs := [1, 8]) (by kernel_rfl) (by simp) ?_
            refine (AllReadyH.cons rfl (fun K hK => ?_) (AllReadyH.cons rfl (fun K hK => ?_) AllReadyH.nil))
            · skip
              have c45 := CO'.out
              go_simp
              refine hK.out _ _ hHeld (fun hHeld => ?_)
              clear hK K c45
              try simp only [List.getElem_toArray, List.getElem_cons_succ, List.getElem_cons_zero, Act.put, List.setIfInBounds_toArray, List.set_cons_zero, List.set_cons_succ]
              refine wpAnyH_ready (rs := [8]) (by kernel_rfl) (by simp) ?_
              refine (AllReadyH.cons rfl (fun K hK => ?_) AllReadyH.nil)
              go_simp
              refine (F5.out _).mono ?_
              rintro e w1 ⟨rfl, rfl⟩
              refine hK.out _ _ hHeld (fun hHeld => ?_)
              clear hK K
              try simp only [List.getElem_toArray, List.getElem_cons_succ, List.getElem_cons_zero, Act.put, List.setIfInBounds_toArray, List.set_cons_zero, List.set_cons_succ]
              refine wpAnyH_take (i := 9) (v := Value.int .i64 (1 + x5)) rfl (by kernel_rfl) (by kernel_rfl) (by kernel_rfl) (fun _ _ _ h => h) (Or.inl ⟨rfl, fun w' hw' => ?_⟩) hHeld ?_
              · go_simp; exact IntWalk.i64_in _ ⟨by omega, by omega⟩
              simp only [List.getElem_toArray, List.getElem_cons_succ, List.getElem_cons_zero, Act.put, List.setIfInBounds_toArray, List.set_cons_zero, List.set_cons_succ]
              refine wpAnyH_ready (rs := [10]) (by kernel_rfl) (by simp) ?_
              refine (AllReadyH.cons rfl (fun K hK => ?_) AllReadyH.nil)
              go_simp
              refine hK.out _ _ (hHeld.alloc (by have := BD.out.size; omega) _) (fun hHeld => ?_)
              clear hK K
              try simp only [List.getElem_toArray, List.getElem_cons_succ, List.getElem_cons_zero, Act.put, List.setIfInBounds_toArray, List.set_cons_zero, List.set_cons_succ]
              refine wpAnyH_ready (rs := [11]) (by kernel_rfl) (by simp) ?_
              refine (AllReadyH.cons rfl (fun K hK => ?_) AllReadyH.nil)
              rw [if_pos (by rfl)]
              have hNA := Nums.below (Nums.below NU.out BD.out) ((Below.refl WD.heap.size WD).alloc (Nat.le_refl _) (.cells #[.int .i64 (1 + x5)] 3))
              refine wp_appI (Operand.tmp 45) (Operand.tmp 54) rfl (w.heap.size + 1 + 1 + 1) (.slice vo made.length vc) made [1 + x5] rfl hNA (some ⟨WD.heap.size, 0, none⟩) 1 1 rfl ⟨rfl, .inr ⟨_, rfl, fun j hj => ?_⟩⟩ (by simp; omega) (by have := BD.out.size; simp; omega) ?_
              · have hj0 : j = 0 := by simpa using hj
                subst hj0
                show World.cell? _ ⟨WD.heap.size, 0, none⟩ = _
                rw [Lib.cell_of_heap (alloc_at WD (.cells #[.int .i64 (1 + x5)] 3))]; rfl
              intro v' w9 hown9 hg9
              have hb9 : Below (w.heap.size + 1 + 1 + 1) wr w9 := nums_app ((BD.out.mono (by omega)).alloc (by have := BD.out.size; omega) _) hNA (by have := BD.out.size; simp; omega) hg9
              obtain ⟨so, sc, rfl⟩ := nums_form hown9
              rw [List.length_append, List.length_singleton] at hown9
              obtain ⟨m1, m2, m3, m4, m5, m6, m7, m8⟩ := mark_step (q := p) hgl h4 HM.out HY.out HO.out HZ0.out H0.out (by rw [HPJ.out]; exact GC.out) BU.out hbs hown9 hb9
              rw [HPJ.out] at m5 m7 m8
              have M2 := Lib.hid m2
              have M3 := Lib.hid m3
              have M4 := Lib.hid m4
              have M5 := Lib.hid m5
              have M6 := Lib.hid m6
              have M7 := Lib.hid m7
              have M8 := Lib.hid m8
              refine hK.out _ _ m1 (fun hHeld => ?_)
              clear hK K hown9 hg9 hb9 hNA m1 m2 m3 m4 m5 m6 m7 m8
              try simp only [List.getElem_toArray, List.getElem_cons_succ, List.getElem_cons_zero, Act.put, List.setIfInBounds_toArray, List.set_cons_zero, List.set_cons_succ]
              refine wpAnyH_take (i := 12) (v := Value.pointer (some ⟨w.heap.size + 1 + 1, 2, none⟩)) rfl (by kernel_rfl) (by kernel_rfl) (by kernel_rfl) (fun _ _ _ h => h) (Or.inl ⟨rfl, fun w' hw' => ?_⟩) hHeld ?_
              · go_simp
              simp only [List.getElem_toArray, List.getElem_cons_succ, List.getElem_cons_zero, Act.put, List.setIfInBounds_toArray, List.set_cons_zero, List.set_cons_succ]
              refine wpAnyH_ready (rs := [13]) (by kernel_rfl) (by simp) ?_
              refine (AllReadyH.cons rfl (fun K hK => ?_) AllReadyH.nil)
              have cc := M2.out
              have cf := M3.out
              go_simp
              refine hK.out _ _ M4.out (fun hHeld => ?_)
              clear hK K cc cf
              try simp only [List.getElem_toArray, List.getElem_cons_succ, List.getElem_cons_zero, Act.put, List.setIfInBounds_toArray, List.set_cons_zero, List.set_cons_succ]
              refine wpAnyH_done (by kernel_rfl) ?_ _
              refine NoPanic.normal ?_
              clear hHeld
              have e1 : (made ++ [1 + x5]).length = made.length + 1 := by simp
              try simp only [e1]
              generalize w9.setCell ⟨w.heap.size + 1 + 1, 2, none⟩ (.slice so (made.length + 1) sc) = W10 at M4 M5 M6 M7 M8 ⊢
              have cg := M5.out
              have cf := M6.out
              go_wp2_with fail
              go_roundw
              case rel => exact M7.out
              case measure =>
                rw [M8.out, mlen_at HO.out]; omega
            · skip
              go_simp
              refine (F5.out _).mono ?_
              rintro e w1 ⟨rfl, rfl⟩
              refine hK.out _ _ hHeld (fun hHeld => ?_)
              clear hK K
              try simp only [List.getElem_toArray, List.getElem_cons_succ, List.getElem_cons_zero, Act.put, List.setIfInBounds_toArray, List.set_cons_zero, List.set_cons_succ]
              refine wpAnyH_take (i := 9) (v := Value.int .i64 (1 + x5)) rfl (by kernel_rfl) (by kernel_rfl) (by kernel_rfl) (fun _ _ _ h => h) (Or.inl ⟨rfl, fun w' hw' => ?_⟩) hHeld ?_
              · go_simp; exact IntWalk.i64_in _ ⟨by omega, by omega⟩
              simp only [List.getElem_toArray, List.getElem_cons_succ, List.getElem_cons_zero, Act.put, List.setIfInBounds_toArray, List.set_cons_zero, List.set_cons_succ]
              refine wpAnyH_ready (rs := [1, 10]) (by kernel_rfl) (by simp) ?_
              refine (AllReadyH.cons rfl (fun K hK => ?_) (AllReadyH.cons rfl (fun K hK => ?_) AllReadyH.nil))
              · skip
                have c45 := CO'.out
                go_simp
                refine hK.out _ _ hHeld (fun hHeld => ?_)
                clear hK K c45
                try simp only [List.getElem_toArray, List.getElem_cons_succ, List.getElem_cons_zero, Act.put, List.setIfInBounds_toArray, List.set_cons_zero, List.set_cons_succ]
                refine wpAnyH_ready (rs := [10]) (by kernel_rfl) (by simp) ?_
                refine (AllReadyH.cons rfl (fun K hK => ?_) AllReadyH.nil)
                go_simp
                refine hK.out _ _ (hHeld.alloc (by have := BD.out.size; omega) _) (fun hHeld => ?_)
                clear hK K
                try simp only [List.getElem_toArray, List.getElem_cons_succ, List.getElem_cons_zero, Act.put, List.setIfInBounds_toArray, List.set_cons_zero, List.set_cons_succ]
                refine wpAnyH_ready (rs := [11]) (by kernel_rfl) (by simp) ?_
                refine (AllReadyH.cons rfl (fun K hK => ?_) AllReadyH.nil)
                rw [if_pos (by rfl)]
                have hNA := Nums.below (Nums.below NU.out BD.out) ((Below.refl WD.heap.size WD).alloc (Nat.le_refl _) (.cells #[.int .i64 (1 + x5)] 3))
                refine wp_appI (Operand.tmp 45) (Operand.tmp 54) rfl (w.heap.size + 1 + 1 + 1) (.slice vo made.length vc) made [1 + x5] rfl hNA (some ⟨WD.heap.size, 0, none⟩) 1 1 rfl ⟨rfl, .inr ⟨_, rfl, fun j hj => ?_⟩⟩ (by simp; omega) (by have := BD.out.size; simp; omega) ?_
                · have hj0 : j = 0 := by simpa using hj
                  subst hj0
                  show World.cell? _ ⟨WD.heap.size, 0, none⟩ = _
                  rw [Lib.cell_of_heap (alloc_at WD (.cells #[.int .i64 (1 + x5)] 3))]; rfl
                intro v' w9 hown9 hg9
                have hb9 : Below (w.heap.size + 1 + 1 + 1) wr w9 := nums_app ((BD.out.mono (by omega)).alloc (by have := BD.out.size; omega) _) hNA (by have := BD.out.size; simp; omega) hg9
                obtain ⟨so, sc, rfl⟩ := nums_form hown9
                rw [List.length_append, List.length_singleton] at hown9
                obtain ⟨m1, m2, m3, m4, m5, m6, m7, m8⟩ := mark_step (q := p) hgl h4 HM.out HY.out HO.out HZ0.out H0.out (by rw [HPJ.out]; exact GC.out) BU.out hbs hown9 hb9
                rw [HPJ.out] at m5 m7 m8
                have M2 := Lib.hid m2
                have M3 := Lib.hid m3
                have M4 := Lib.hid m4
                have M5 := Lib.hid m5
                have M6 := Lib.hid m6
                have M7 := Lib.hid m7
                have M8 := Lib.hid m8
                refine hK.out _ _ m1 (fun hHeld => ?_)
                clear hK K hown9 hg9 hb9 hNA m1 m2 m3 m4 m5 m6 m7 m8
                try simp only [List.getElem_toArray, List.getElem_cons_succ, List.getElem_cons_zero, Act.put, List.setIfInBounds_toArray, List.set_cons_zero, List.set_cons_succ]
                refine wpAnyH_take (i := 12) (v := Value.pointer (some ⟨w.heap.size + 1 + 1, 2, none⟩)) rfl (by kernel_rfl) (by kernel_rfl) (by kernel_rfl) (fun _ _ _ h => h) (Or.inl ⟨rfl, fun w' hw' => ?_⟩) hHeld ?_
                · go_simp
                simp only [List.getElem_toArray, List.getElem_cons_succ, List.getElem_cons_zero, Act.put, List.setIfInBounds_toArray, List.set_cons_zero, List.set_cons_succ]
                refine wpAnyH_ready (rs := [13]) (by kernel_rfl) (by simp) ?_
                refine (AllReadyH.cons rfl (fun K hK => ?_) AllReadyH.nil)
                have cc := M2.out
                have cf := M3.out
                go_simp
                refine hK.out _ _ M4.out (fun hHeld => ?_)
                clear hK K cc cf
                try simp only [List.getElem_toArray, List.getElem_cons_succ, List.getElem_cons_zero, Act.put, List.setIfInBounds_toArray, List.set_cons_zero, List.set_cons_succ]
                refine wpAnyH_done (by kernel_rfl) ?_ _
                refine NoPanic.normal ?_
                clear hHeld
                have e1 : (made ++ [1 + x5]).length = made.length + 1 := by simp
                try simp only [e1]
                generalize w9.setCell ⟨w.heap.size + 1 + 1, 2, none⟩ (.slice so (made.length + 1) sc) = W10 at M4 M5 M6 M7 M8 ⊢
                have cg := M5.out
                have cf := M6.out
                go_wp2_with fail
                go_roundw
                case rel => exact M7.out
                case measure =>
                  rw [M8.out, mlen_at HO.out]; omega
              · skip
                go_simp
                refine hK.out _ _ (hHeld.alloc (by have := BD.out.size; omega) _) (fun hHeld => ?_)
                clear hK K
                try simp only [List.getElem_toArray, List.getElem_cons_succ, List.getElem_cons_zero, Act.put, List.setIfInBounds_toArray, List.set_cons_zero, List.set_cons_succ]
                refine wpAnyH_ready (rs := [1]) (by kernel_rfl) (by simp) ?_
                refine (AllReadyH.cons rfl (fun K hK => ?_) AllReadyH.nil)
                have c45 := show (WD.alloc (.cells #[.int .i64 (1 + x5)] 3)).cell? ⟨w.heap.size + 1 + 1, 2, none⟩ = some (.slice vo made.length vc) by rw [((Below.refl WD.heap.size WD).alloc (Nat.le_refl _) (.cells #[.int .i64 (1 + x5)] 3)).cell (p := ⟨w.heap.size + 1 + 1, 2, none⟩) (by have := BD.out.size; show w.heap.size + 1 + 1 < _; omega)]; exact CO'.out
                go_simp
                refine hK.out _ _ hHeld (fun hHeld => ?_)
                clear hK K c45
                try simp only [List.getElem_toArray, List.getElem_cons_succ, List.getElem_cons_zero, Act.put, List.setIfInBounds_toArray, List.set_cons_zero, List.set_cons_succ]
                refine wpAnyH_ready (rs := [11]) (by kernel_rfl) (by simp) ?_
                refine (AllReadyH.cons rfl (fun K hK => ?_) AllReadyH.nil)
                rw [if_pos (by rfl)]
                have hNA := Nums.below (Nums.below NU.out BD.out) ((Below.refl WD.heap.size WD).alloc (Nat.le_refl _) (.cells #[.int .i64 (1 + x5)] 3))
                refine wp_appI (Operand.tmp 45) (Operand.tmp 54) rfl (w.heap.size + 1 + 1 + 1) (.slice vo made.length vc) made [1 + x5] rfl hNA (some ⟨WD.heap.size, 0, none⟩) 1 1 rfl ⟨rfl, .inr ⟨_, rfl, fun j hj => ?_⟩⟩ (by simp; omega) (by have := BD.out.size; simp; omega) ?_
                · have hj0 : j = 0 := by simpa using hj
                  subst hj0
                  show World.cell? _ ⟨WD.heap.size, 0, none⟩ = _
                  rw [Lib.cell_of_heap (alloc_at WD (.cells #[.int .i64 (1 + x5)] 3))]; rfl
                intro v' w9 hown9 hg9
                have hb9 : Below (w.heap.size + 1 + 1 + 1) wr w9 := nums_app ((BD.out.mono (by omega)).alloc (by have := BD.out.size; omega) _) hNA (by have := BD.out.size; simp; omega) hg9
                obtain ⟨so, sc, rfl⟩ := nums_form hown9
                rw [List.length_append, List.length_singleton] at hown9
                obtain ⟨m1, m2, m3, m4, m5, m6, m7, m8⟩ := mark_step (q := p) hgl h4 HM.out HY.out HO.out HZ0.out H0.out (by rw [HPJ.out]; exact GC.out) BU.out hbs hown9 hb9
                rw [HPJ.out] at m5 m7 m8
                have M2 := Lib.hid m2
                have M3 := Lib.hid m3
                have M4 := Lib.hid m4
                have M5 := Lib.hid m5
                have M6 := Lib.hid m6
                have M7 := Lib.hid m7
                have M8 := Lib.hid m8
                refine hK.out _ _ m1 (fun hHeld => ?_)
                clear hK K hown9 hg9 hb9 hNA m1 m2 m3 m4 m5 m6 m7 m8
                try simp only [List.getElem_toArray, List.getElem_cons_succ, List.getElem_cons_zero, Act.put, List.setIfInBounds_toArray, List.set_cons_zero, List.set_cons_succ]
                refine wpAnyH_take (i := 12) (v := Value.pointer (some ⟨w.heap.size + 1 + 1, 2, none⟩)) rfl (by kernel_rfl) (by kernel_rfl) (by kernel_rfl) (fun _ _ _ h => h) (Or.inl ⟨rfl, fun w' hw' => ?_⟩) hHeld ?_
                · go_simp
                simp only [List.getElem_toArray, List.getElem_cons_succ, List.getElem_cons_zero, Act.put, List.setIfInBounds_toArray, List.set_cons_zero, List.set_cons_succ]
                refine wpAnyH_ready (rs := [13]) (by kernel_rfl) (by simp) ?_
                refine (AllReadyH.cons rfl (fun K hK => ?_) AllReadyH.nil)
                have cc := M2.out
                have cf := M3.out
                go_simp
                refine hK.out _ _ M4.out (fun hHeld => ?_)
                clear hK K cc cf
                try simp only [List.getElem_toArray, List.getElem_cons_succ, List.getElem_cons_zero, Act.put, List.setIfInBounds_toArray, List.set_cons_zero, List.set_cons_succ]
                refine wpAnyH_done (by kernel_rfl) ?_ _
                refine NoPanic.normal ?_
                clear hHeld
                have e1 : (made ++ [1 + x5]).length = made.length + 1 := by simp
                try simp only [e1]
                generalize w9.setCell ⟨w.heap.size + 1 + 1, 2, none⟩ (.slice so (made.length + 1) sc) = W10 at M4 M5 M6 M7 M8 ⊢
                have cg := M5.out
                have cf := M6.out
                go_wp2_with fail
                go_roundw
                case rel => exact M7.out
                case measure =>
                  rw [M8.out, mlen_at HO.out]; omega
          · have hme' : mksAt ns k p = made := by rw [HM.out, show 4 - made.length = 0 by omega]; simp [mksTo, mks]
            have q3 : decide ((made.length : Int) < 4) = false := decide_eq_false (by omega)
            clear hz hx3 hx5
            go_wp2_with fail
            refine (F3.out _).mono ?_
            rintro e w1 ⟨rfl, rfl⟩
            go_wp2_with fail
            exact REST.out _ _ _ _ _ _ _ _ _ _ _ _ _ _ _ _ _ _ _ _ _ _ _ _ _ _ _ _ _ _ _ _ _ _ _ _ _ _ _ _ _ _ _ _ _ _ _ _ _ _ _ _ _ _ _ _ _ _ _ _ _ _ _ _ _ _ _ _ _ _ _ _ _ _ _ _ _ _ _ _ _ _ wr (.slice vo made.length vc) (by rw [hme']; exact NU.out) HO.out HZ0.out H0.out (by rw [hme', HPJ.out]; exact GC.out) BU.out hbs
        · have q2 : decide ((0 : Int) < x3) = false := decide_eq_false hpos
          have hme' : mksAt ns k p = made := by
            have e : mksTo ns k (4 - made.length) (p + made.length) = [] := by
              unfold mksTo
              rw [if_pos HK.out]
              cases 4 - made.length with
              | zero => simp [mks]
              | succ m =>
                rw [mks, dif_pos (by omega)]
                have e : ns[p + made.length]'(by omega) = z := by rw [← hz]; congr 1
                rw [e, hx3, if_neg hpos]
            rw [HM.out, e, List.append_nil]
          clear hz hx3 hx5
          go_wp2_with fail
          refine (F3.out _).mono ?_
          rintro e w1 ⟨rfl, rfl⟩
          go_wp2_with fail
          exact REST.out _ _ _ _ _ _ _ _ _ _ _ _ _ _ _ _ _ _ _ _ _ _ _ _ _ _ _ _ _ _ _ _ _ _ _ _ _ _ _ _ _ _ _ _ _ _ _ _ _ _ _ _ _ _ _ _ _ _ _ _ _ _ _ _ _ _ _ _ _ _ _ _ _ _ _ _ _ _ _ _ _ _ wr (.slice vo made.length vc) (by rw [hme']; exact NU.out) HO.out HZ0.out H0.out (by rw [hme', HPJ.out]; exact GC.out) BU.out hbs
      · have q1 : decide ((pj : Int) < (len : Int)) = false := decide_eq_false (by omega)
        have hme' : mksAt ns k p = made := by
          have e : mksTo ns k (4 - made.length) (p + made.length) = [] := by
            unfold mksTo
            rw [if_pos HK.out]
            cases 4 - made.length with
            | zero => simp [mks]
            | succ m => rw [mks, dif_neg (by omega)]
          rw [HM.out, e, List.append_nil]
        go_wp2_with fail
        exact REST.out _ _ _ _ _ _ _ _ _ _ _ _ _ _ _ _ _ _ _ _ _ _ _ _ _ _ _ _ _ _ _ _ _ _ _ _ _ _ _ _ _ _ _ _ _ _ _ _ _ _ _ _ _ _ _ _ _ _ _ _ _ _ _ _ _ _ _ _ _ _ _ _ _ _ _ _ _ _ _ _ _ _ wr (.slice vo made.length vc) (by rw [hme']; exact NU.out) HO.out HZ0.out H0.out (by rw [hme', HPJ.out]; exact GC.out) BU.out hbs
    · have q0 : (k == 3) = false := by rw [beq_eq_false_iff_ne]; exact hk
      have hme' : mksAt ns k p = made := by
        rw [HM.out]; simp [mksTo, hk]
      go_wp2_with fail
      exact REST.out _ _ _ _ _ _ _ _ _ _ _ _ _ _ _ _ _ _ _ _ _ _ _ _ _ _ _ _ _ _ _ _ _ _ _ _ _ _ _ _ _ _ _ _ _ _ _ _ _ _ _ _ _ _ _ _ _ _ _ _ _ _ _ _ _ _ _ _ _ _ _ _ _ _ _ _ _ _ _ _ _ _ wr (.slice vo made.length vc) (by rw [hme']; exact NU.out) HO.out HZ0.out H0.out (by rw [hme', HPJ.out]; exact GC.out) BU.out hbs
theorem mark_any (N : Nat) : N ≤ 1000000 → ∀ (d : Dt), d.size ≤ N → ∀ (ns : List Int) (g p : Nat) (cs : Array Value) (ao : Option Addr) (len cap : Nat) (w : World), Dt.At (fun b => b ≠ g) w d cs → Sg g w ao len cap ns →
      w.heap[g]? = some (.cells #[.int .i64 p] 3 (0, 0)) → p + 5 * d.size ≤ 100000000 → Calls Try.prog 13 #[.agg cs, .slice ao len cap, .pointer (some ⟨g, 0, none⟩)] w (RetMark ns g d p w) := by
  induction N with
  | zero => intro _ d hd; cases d; simp [Dt.size] at hd
  | succ N ih =>
    intro hN d hd ns g p cs ao len cap w hat hS hg hp
    obtain ⟨k, t, ms, l, q⟩ := d
    rw [At_mk] at hat
    obtain ⟨mv, lv, rfl, hm, hl⟩ := hat
    obtain ⟨lo, lc, rfl⟩ := hl.form
    exact mark_list N (by omega) (ih (by omega)) k t ms l q ns g p (by simp only [Dt.size] at hd; omega) mv hm.one lo lc ao len cap w hl hS hg (by simpa [Dt.size] using hp)
end Go.Proofs.Ytlkpddokmibkiaa
