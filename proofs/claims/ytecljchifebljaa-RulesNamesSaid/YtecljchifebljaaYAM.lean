/- thunkref2.Copy, at any datum. -/
import Derived.Test.YtecljchifebljaaYAA
import Derived.Test.YtecljchifebljaaYAL
import Derived.Test.YtecljchifebljaaYAE
import Derived.Deep.RegionHeld3
import Derived.Deep.Cut
import Derived.Test.YtecljchifebljaaYAC
import Derived.OwnWalk
import Derived.Laws.AppendOwn
set_option linter.unusedVariables false
set_option linter.unusedSimpArgs false
namespace Go.Proofs.Ytecljchifebljaa
open Go.RowKit
theorem below_setRow {b : Nat} {a w : World} (h : Below b a w) (g : Nat) (cs : Array Value) (hg : b ≤ g) : Below b a (w.setRow g cs) :=
 h.trans ⟨rfl, rfl, rfl, by simp, fun k hk => setRow_other w g k cs (by omega)⟩
theorem infoI : (Try.prog.info? 3).map (fun i => (i.zero, i.size, i.bytes)) = some (some (.int .i64 0), 1, 8) := by kernel_rfl
/-- A row of numbers that the call owns. -/
def Nums (B : Nat) (w : World) (v : Value) (ms : List Int) : Prop := w.ownsRow B 3 1 v ms.length (ms.map (Value.int .i64))
theorem Nums.at {B : Nat} {w : World} {v : Value} {ms : List Int} (h : Nums B w v ms) (hm : ms.length ≤ 1000000000) : MAt (fun g => B ≤ g) w v ms := by
 rcases h.2 with ⟨rfl, hz⟩ | ⟨g, cap, cur, rfl, hbg, hg, hnc, hcm, hcs, htake⟩
 ·exact .inl ⟨rfl, List.length_eq_zero_iff.1 hz⟩
 ·refine .inr ⟨g, 0, cap, cur, (0, 0), rfl, hbg, hg, fun j hj => ?_, hm⟩
  have h1 : (cur.toList.take (ms.length * 1))[j]? = some (.int .i64 ms[j]) := by rw [htake, List.getElem?_map, List.getElem?_eq_getElem hj]; rfl
  rw [List.getElem?_take, if_pos (by omega)] at h1
  simpa using h1
/-- Blocks below B stay, but for the one that counts. -/
structure But (B g : Nat) (w w' : World) : Prop where
 os : w'.os = w.os
 tape : w'.tape = w.tape
 output : w'.output = w.output
 size : w.heap.size ≤ w'.heap.size
 block : ∀ k, k < B → k ≠ g → w'.heap[k]? = w.heap[k]?
theorem But.refl (B g : Nat) (w : World) : But B g w w := ⟨rfl, rfl, rfl, Nat.le_refl _, fun _ _ _ => rfl⟩
theorem But.trans {B g : Nat} {a b c : World} (h : But B g a b) (k : But B g b c) : But B g a c :=
 ⟨k.os.trans h.os, k.tape.trans h.tape, k.output.trans h.output, Nat.le_trans h.size k.size, fun i hi hg => (k.block i hi hg).trans (h.block i hi hg)⟩
theorem But.of {B g : Nat} {w w' : World} (h : Below B w w') : But B g w w' := ⟨h.os, h.tape, h.output, h.size, fun k hk _ => h.block k hk⟩
theorem But.drew {B g : Nat} {a w : World} (h : But B g a w) : But B g a w.drew := ⟨h.os, h.tape, h.output, h.size, h.block⟩
theorem But.setCell {B g : Nat} {a w : World} (h : But B g a w) {p : Addr} (hp : B ≤ p.block ∨ p.block = g) (u : Value) : But B g a (w.setCell p u) := by
 refine h.trans ⟨rfl, rfl, rfl, by simp [World.setCell], fun k hk hg => ?_⟩
 exact Below.heap_setCell w p u k (by rintro rfl; rcases hp with hp | hp <;> omega)
theorem But.cell {B g : Nat} {w w' : World} (h : But B g w w') {p : Addr} (hp : p.block < B) (hg : p.block ≠ g) : w'.cell? p = w.cell? p := World.cell?_of_block (w := w) (h.block p.block hp hg)
/-- Blocks below B stay, but for two. -/
structure Hole (B g o : Nat) (w w' : World) : Prop where
 os : w'.os = w.os
 tape : w'.tape = w.tape
 output : w'.output = w.output
 size : w.heap.size ≤ w'.heap.size
 block : ∀ k, k < B → k ≠ g → k ≠ o → w'.heap[k]? = w.heap[k]?
theorem Hole.refl (B g o : Nat) (w : World) : Hole B g o w w := ⟨rfl, rfl, rfl, Nat.le_refl _, fun _ _ _ _ => rfl⟩
theorem Hole.but {B g o : Nat} {a b c : World} (h : Hole B g o a b) (k : But B g b c) : Hole B g o a c :=
 ⟨k.os.trans h.os, k.tape.trans h.tape, k.output.trans h.output, Nat.le_trans h.size k.size, fun i hi hg ho => (k.block i hi hg).trans (h.block i hi hg ho)⟩
theorem Hole.setCell {B g o : Nat} {a w : World} (h : Hole B g o a w) {p : Addr} (hp : p.block = o) (u : Value) : Hole B g o a (w.setCell p u) :=
 ⟨h.os, h.tape, h.output, Nat.le_trans h.size (by simp [World.setCell]), fun i hi hg ho => (Below.heap_setCell w p u i (by rintro rfl; exact ho hp)).trans (h.block i hi hg ho)⟩
theorem Hole.to {B B' g o : Nat} {a w : World} (h : Hole B g o a w) (hB : B' ≤ B) (ho : B' ≤ o) : But B' g a w :=
 ⟨h.os, h.tape, h.output, h.size, fun i hi hg => h.block i (by omega) hg (by omega)⟩
theorem Hole.below {B g o : Nat} {a b c : World} (h : Hole B g o a b) (k : Below B b c) : Hole B g o a c := h.but (But.of k)
/-- So many parts are made; the new datum lies in block ob. -/
def LInv3 (fs : List Dt → List Dt) (l : List Dt) (ob : Nat) (k : Int) (t : ByteArray) (v : Value) (q : Int) (W5 : World) (iv : Value) (wr : World) : Prop :=
 ∃ (j : Nat) (v2 : Value), j ≤ l.length ∧ iv = .int .i64 j ∧ wr.heap[ob]? = some (.cells #[.int .i64 k, .string t, v, v2, .int .i64 q] 29 (0, 0)) ∧ OwnD W5.heap.size wr v2 (fs (l.take j)) ∧ Hole W5.heap.size ob ob W5 wr
theorem part_more3 {fs : List Dt → List Dt} {f : Dt → Dt} {l : List Dt} {ob : Nat} {k : Int} {t : ByteArray} {v : Value} {q : Int} {W5 : World} {j : Nat} {v2 : Value} {wr : World} (hlt : j < l.length) (hl1 : l.length ≤ 1000000) (hs5 : ob < W5.heap.size)
  (hfl : (fs (l.take j)).length = j) (hfs : fs (l.take (j + 1)) = fs (l.take j) ++ [f l[j]])
  (ho : wr.heap[ob]? = some (.cells #[.int .i64 k, .string t, v, v2, .int .i64 q] 29 (0, 0))) (hown : OwnD W5.heap.size wr v2 (fs (l.take j))) (hh : Hole W5.heap.size ob ob W5 wr)
  {WD w7 : World} (hbd : Below wr.heap.size wr WD) (hsd : WD.heap.size = wr.heap.size) {cs : Array Value} (hat : Dt.At (fun b => WD.heap.size ≤ b) w7 (f l[j]) cs) (hb : Below WD.heap.size WD w7) (h5 : cs.size = 5) :
  ∃ xs, (w7.alloc (.cells cs 29)).ownsRow W5.heap.size 29 5 v2 j xs ∧ W5.heap.size ≤ (w7.alloc (.cells cs 29)).heap.size ∧ But W5.heap.size ob wr w7 ∧ But W5.heap.size ob wr (w7.alloc (.cells cs 29)) ∧
   w7.cell? ⟨ob, 3, none⟩ = some v2 ∧ (w7.alloc (.cells cs 29)).cell? ⟨ob, 3, none⟩ = some v2 ∧ ∀ v' w9, w9.ownsRow W5.heap.size 29 5 v' (j + 1) (xs ++ cs.toList) → (w7.alloc (.cells cs 29)).grownBy w9 v2.ownBlock →
   (v'.ownBlock = v2.ownBlock ∨ v'.ownBlock = some (w7.alloc (.cells cs 29)).heap.size) →
   But W5.heap.size ob wr w9 ∧ w9.cell? ⟨ob, 3, none⟩ = some v2 ∧ w9.frozen? ⟨ob, 3, none⟩ = false ∧ But W5.heap.size ob wr (w9.setCell ⟨ob, 3, none⟩ v') ∧
    LInv3 fs l ob k t v q W5 (.int .i64 ((j : Int) + 1)) (w9.setCell ⟨ob, 3, none⟩ v') := by
 have hs := hh.size
 have hbw : Below wr.heap.size wr w7 := hbd.trans (by rw [← hsd]; exact hb)
 have hs7 := hbw.size
 have hba : Below wr.heap.size wr (w7.alloc (.cells cs 29)) := hbw.alloc hbw.size _
 obtain ⟨xs, hown8, hx8⟩ := OwnD.below hown hba
 rw [hfl] at hown8
 have hvl : ∀ k, v2.ownBlock = some k → W5.heap.size ≤ k ∧ k < wr.heap.size := by
  obtain ⟨ys, hy, _⟩ := hown
  exact hy.lt
 have hz8 : (w7.alloc (.cells cs 29)).heap.size = w7.heap.size + 1 := by simp
 have o7 : w7.heap[ob]? = some (.cells #[.int .i64 k, .string t, v, v2, .int .i64 q] 29 (0, 0)) := by rw [hbw.block _ (by omega)]; exact ho
 have o8 : (w7.alloc (.cells cs 29)).heap[ob]? = some (.cells #[.int .i64 k, .string t, v, v2, .int .i64 q] 29 (0, 0)) := by rw [hba.block _ (by omega)]; exact ho
 refine ⟨xs, hown8, by rw [hz8]; omega, But.of (hbw.mono hs), But.of (hba.mono hs), by rw [Lib.cell_of_heap o7]; rfl, by rw [Lib.cell_of_heap o8]; rfl, fun v' w9 hown9 hg9 hv9 => ?_⟩
 have hB9 : Below W5.heap.size wr w9 := (hba.mono hs).grown hg9 (by rw [hz8]; omega) (fun k hk => (hvl k hk).1)
 have g9 : w9.heap[ob]? = some (.cells #[.int .i64 k, .string t, v, v2, .int .i64 q] 29 (0, 0)) := by rw [hB9.block _ hs5]; exact ho
 refine ⟨But.of hB9, by rw [Lib.cell_of_heap g9]; rfl, frozen_of_row w9 ob 3 _ 29 g9, (But.of hB9).setCell (p := ⟨ob, 3, none⟩) (.inr rfl) v', ?_⟩
 refine ⟨j + 1, v', by omega, by congr 1, heap_setCell_same w9 _ 3 _ 29 v' g9, ?_, (hh.below hB9).setCell (p := ⟨ob, 3, none⟩) rfl _⟩
 refine OwnD.setCell ?_ (by show ob < _; omega) _
 rw [hfs]
 have hlx : xs.length = j * 5 := hown8.1
 refine OwnD.snoc hx8 (by rw [hfl]; exact hlx) h5 ?_ (by rw [hfl]; exact hown9) hg9 hv9
 have h1 := Dt.At.bound _ cs hat
 have h2 := Dt.At.keeps (Keeps.of_below ((Below.refl w7.heap.size w7).alloc (Nat.le_refl _) (.cells cs 29))) _ cs h1
 refine Dt.At.mono (fun b hb' => ⟨?_, ?_⟩) _ cs h2
 ·have : WD.heap.size ≤ b := hb'.1; omega
 ·intro e
  have := (hvl b e).2
  have : WD.heap.size ≤ b := hb'.1
  omega
theorem MAt.ne {S : Nat → Prop} {w : World} {v : Value} {ms : List Int} {ob : Nat} {c : Array Value} {fz : Nat × Nat} (h : MAt S w v ms) (ho : w.heap[ob]? = some (.cells c 29 fz)) : MAt (fun x => S x ∧ x ≠ ob) w v ms := by
 rcases h with h | ⟨g, o, cap, arr, fz', h1, h2, h3, h4⟩
 ·exact .inl h
 ·refine .inr ⟨g, o, cap, arr, fz', h1, ⟨h2, ?_⟩, h3, h4⟩
  rintro rfl
  rw [ho] at h3
  injection h3 with h3
  injection h3 with _ h3 _
  exact absurd h3 (by decide)
end Go.Proofs.Ytecljchifebljaa
namespace Go.Proofs.Ytecljchifebljaa
open Go.RowKit
inductive Bd where
 | mk (n : Dt) (q : Int) (d : Dt) (l : List Bd) : Bd
namespace Bd
def name : Bd → Dt | mk n _ _ _ => n
def deep : Bd → Int | mk _ q _ _ => q
def dat : Bd → Dt | mk _ _ d _ => d
def rows : Bd → List Bd | mk _ _ _ l => l
mutual
def size : Bd → Nat | mk n _ d l => n.size + d.size + sizes l + 1
def sizes : List Bd → Nat
 | [] => 0
 | b :: r => b.size + sizes r
end
end Bd
/-- A datum's five cells, by its own words. -/
def Dt.five (d : Dt) (mv lv : Value) : List Value := [.int .i64 d.kind, .string d.text, mv, lv, .int .i64 d.place]
/-- All rows stand. -/
def KeepsB (S : Nat → Prop) (w w' : World) : Prop := ∀ g c T fz, S g → w.heap[g]? = some (.cells c T fz) → ∃ fz', w'.heap[g]? = some (.cells c T fz')
theorem KeepsB.keeps {S : Nat → Prop} {w w' : World} (h : KeepsB S w w') : Keeps S w w' := fun g c T fz hs hg _ => h g c T fz hs hg
theorem KeepsB.of_below {S : Nat → Prop} {w w' : World} (h : Below w.heap.size w w') : KeepsB S w w' := fun g c T fz _ hg => ⟨fz, by rw [h.block g (Array.getElem?_eq_some_iff.1 hg).1]; exact hg⟩
theorem KeepsB.of_grown {S : Nat → Prop} {w w' : World} {row : Option Nat} (h : w.grownBy w' row) (hS : ∀ g, S g → some g ≠ row) : KeepsB S w w' := fun g c T fz hs hg => ⟨fz, by rw [h.block g (Array.getElem?_eq_some_iff.1 hg).1 (hS g hs)]; exact hg⟩
theorem keepsB_low {B : Nat} {w w' : World} (h : Below B w w') : KeepsB (fun g => g < B) w w' := fun g c T fz hs hg => ⟨fz, by rw [h.block g hs]; exact hg⟩
end Go.Proofs.Ytecljchifebljaa
namespace Go.Proofs.Ytecljchifebljaa
open Go.RowKit
def ZB : Array Value := #[.int .i64 0, .string ⟨#[]⟩, .slice none 0 0, .slice none 0 0, .int .i64 0, .int .i64 0, .int .i64 0, .string ⟨#[]⟩, .slice none 0 0, .slice none 0 0, .int .i64 0, .slice none 0 0]
end Go.Proofs.Ytecljchifebljaa
namespace Go.Proofs.Ytecljchifebljaa
open Go.RowKit
mutual
theorem same_refl : ∀ (d : Dt), Dt.same d d = true
 | .mk k t ms l p => by rw [same_mk, sames_refl l]; simp
theorem sames_refl : ∀ (l : List Dt), Dt.sames l l = true
 | [] => by simp [Dt.sames]
 | d :: l => by simp [Dt.sames, same_refl d, sames_refl l]
end
end Go.Proofs.Ytecljchifebljaa
namespace Go.Proofs.Ytecljchifebljaa
open Go.RowKit
/-- The newest mark; 0 of none. -/
def lastM (ms : List Int) : Int := ms.getLastD 0
/-- A key's three fields. -/
def keyV (d : Dt) : Array Value := #[.string d.text, .int .i64 (d.marks.length : Int), .int .i64 (lastM d.marks)]
def RetKey (d : Dt) (w : World) (e : Ending) (w' : World) : Prop := e = .returned (.agg (keyV d)) ∧ Below w.heap.size w w'
theorem lastM_at (ms : List Int) (h : 0 < ms.length) : lastM ms = ms[ms.length - 1]'(by omega) := by
 unfold lastM
 rw [List.getLastD_eq_getLast?, List.getLast?_eq_getElem?, List.getElem?_eq_getElem (by omega)]; rfl
theorem infoK : (Try.prog.info? 120).map (·.size) = some 3 := by kernel_rfl
theorem second2 (w : World) (A B : Obj) : ((w.alloc A).alloc B).heap[w.heap.size + 1]? = some B := by
 have h := heap_alloc_new (w.alloc A) B
 have e : (w.alloc A).heap.size = w.heap.size + 1 := by simp
 rw [e] at h; exact h
set_option maxHeartbeats 16000000 in
set_option maxRecDepth 100000 in
theorem keyOf_any {S : Nat → Prop} {w : World} {d : Dt} {cs : Array Value} (hd : Dt.At S w d cs) : Calls Try.prog 69 #[.agg cs] w (RetKey d w) := by
 obtain ⟨k, t, ms, l, p⟩ := d
 rw [At_mk] at hd
 obtain ⟨mv, lv, rfl, hm, hl⟩ := hd
 have hm1 := hm.one
 obtain ⟨ao, cap, rfl⟩ := hm.form
 have hms := hm.short
 have HM := Lib.hid hm
 have hl1 : lv.oneCell' = true := by
  rcases hl with ⟨rfl, _⟩ | ⟨g, o, cap, arr, fz, rfl, _⟩ <;> rfl
 clear hl hm
 go_enter Try.func69, Try.ntmps69
 obtain ⟨nm, hnm⟩ : ∃ n, n = ms.length := ⟨_, rfl⟩
 by_cases h0 : 0 < ms.length
 ·obtain ⟨g, o, rfl, hc⟩ := HM.out.get (ms.length - 1) (by omega)
  have hg : g < w.heap.size := World.block_lt_of_cell? w _ hc
  have hB : Below w.heap.size w (((w.alloc (.cells #[.int .i64 k, .string t, .slice (some ⟨g, o, none⟩) ms.length cap, lv, .int .i64 p] 29)).alloc (.cells #[.string ⟨#[]⟩, .int .i64 0, .int .i64 0] 120)).alloc (.cells #[.string t, .int .i64 (ms.length : Int), .int .i64 0] 120)) := (((Below.refl _ _).alloc (Nat.le_refl _) _).alloc (by simp) _).alloc (by simp; omega) _
  have hc' : (((w.alloc (.cells #[.int .i64 k, .string t, .slice (some ⟨g, o, none⟩) ms.length cap, lv, .int .i64 p] 29)).alloc (.cells #[.string ⟨#[]⟩, .int .i64 0, .int .i64 0] 120)).alloc (.cells #[.string t, .int .i64 (ms.length : Int), .int .i64 0] 120)).cell? ⟨g, o + (ms.length - 1), none⟩ = some (.int .i64 ms[ms.length - 1]) := (hB.cell (p := ⟨g, o + (ms.length - 1), none⟩) hg).trans hc
  have HB := Lib.hid hB
  clear hB
  go_wp2_with fail
  refine bodyPost_ret (results_cell_row rfl _ _ (w.heap.size + 1) 120 #[.string t, .int .i64 (ms.length : Int), .int .i64 ms[ms.length - 1]] (0, 0) _ rfl ((Lib.alloc_old _ _ _ (by simp)).trans (second2 w _ _)) Try.underlying120 rfl infoK) rfl ?_
  refine ⟨by rw [keyV]; simp only [Dt.text, Dt.marks, lastM_at ms h0], ?_⟩
  exact (((Below.refl _ _).alloc (Nat.le_refl _) _).alloc (by simp) _).alloc (by simp; omega) _
 ·obtain rfl : ms = [] := List.length_eq_zero_iff.1 (by omega)
  go_wp2_with fail
  refine bodyPost_ret (results_cell_row rfl _ _ (w.heap.size + 1) 120 #[.string t, .int .i64 0, .int .i64 0] (0, 0) _ rfl ((Lib.alloc_old _ _ _ (by simp)).trans (second2 w _ _)) Try.underlying120 rfl infoK) rfl ?_
  refine ⟨rfl, ?_⟩
  exact (((Below.refl _ _).alloc (Nat.le_refl _) _).alloc (by simp) _).alloc (by simp; omega) _
end Go.Proofs.Ytecljchifebljaa
namespace Go.Proofs.Ytecljchifebljaa
open Go.RowKit
mutual
/-- The twelve cells cs are this binding; all blocks that it leads to are some of S. -/
def Bd.PAt (S : Nat → Prop) (w : World) : Bd → Array Value → Prop
 | .mk n q d l, cs => ∃ m1 l1 m2 l2 lv, cs = (n.five m1 l1 ++ [Value.int .i64 q] ++ d.five m2 l2 ++ [lv]).toArray ∧ Dt.At S w n (n.five m1 l1).toArray ∧ Dt.At S w d (d.five m2 l2).toArray ∧
   ((lv = .slice none 0 0 ∧ l = []) ∨ ∃ g o cap arr fz, lv = .slice (some ⟨g, o, none⟩) l.length cap ∧ S g ∧ w.heap[g]? = some (.cells arr 60 fz) ∧ Bds.PAt S w l arr o)
/-- From place o on the cells of a row are these bindings, one behind the other. -/
def Bds.PAt (S : Nat → Prop) (w : World) : List Bd → Array Value → Nat → Prop
 | [], _, _ => True
 | b :: l, arr, o => (∃ cs, (∀ i, i < 12 → arr[o + i]? = cs[i]?) ∧ Bd.PAt S w b cs) ∧ Bds.PAt S w l arr (o + 12)
end
/-- A slice of bindings that reads as l. -/
def PsAt (S : Nat → Prop) (w : World) (lv : Value) (l : List Bd) : Prop :=
 (lv = .slice none 0 0 ∧ l = []) ∨ ∃ g o cap arr fz, lv = .slice (some ⟨g, o, none⟩) l.length cap ∧ S g ∧ w.heap[g]? = some (.cells arr 60 fz) ∧ Bds.PAt S w l arr o
theorem BdPAt_mk (S : Nat → Prop) (w : World) (n : Dt) (q : Int) (d : Dt) (l : List Bd) (cs : Array Value) :
  Bd.PAt S w (.mk n q d l) cs ↔ ∃ m1 l1 m2 l2 lv, cs = (n.five m1 l1 ++ [Value.int .i64 q] ++ d.five m2 l2 ++ [lv]).toArray ∧ Dt.At S w n (n.five m1 l1).toArray ∧ Dt.At S w d (d.five m2 l2).toArray ∧ PsAt S w lv l := by
 unfold Bd.PAt PsAt; rfl
mutual
theorem Bd.PAt.keeps {S : Nat → Prop} {w w' : World} (k : KeepsB S w w') : ∀ (b : Bd) (cs : Array Value), Bd.PAt S w b cs → Bd.PAt S w' b cs
 | .mk n q d l, cs, h => by
  rw [BdPAt_mk] at h ⊢
  obtain ⟨m1, l1, m2, l2, lv, e, hn, hd, hl⟩ := h
  refine ⟨m1, l1, m2, l2, lv, e, hn.keeps k.keeps, hd.keeps k.keeps, ?_⟩
  rcases hl with hl | ⟨g, o, cap, arr, fz, h1, h2, h3, h4⟩
  ·exact .inl hl
  ·obtain ⟨fz', h5⟩ := k g arr 60 fz h2 h3
   exact .inr ⟨g, o, cap, arr, fz', h1, h2, h5, Bds.PAt.keeps k l arr o h4⟩
theorem Bds.PAt.keeps {S : Nat → Prop} {w w' : World} (k : KeepsB S w w') : ∀ (l : List Bd) (arr : Array Value) (o : Nat), Bds.PAt S w l arr o → Bds.PAt S w' l arr o
 | [], _, _, _ => by unfold Bds.PAt; trivial
 | b :: l, arr, o, h => by
  unfold Bds.PAt at h ⊢
  obtain ⟨⟨cs, hc, hd⟩, hr⟩ := h
  exact ⟨⟨cs, hc, Bd.PAt.keeps k b cs hd⟩, Bds.PAt.keeps k l arr (o + 12) hr⟩
end
mutual
theorem Bd.PAt.mono {S T : Nat → Prop} {w : World} (k : ∀ g, S g → T g) : ∀ (b : Bd) (cs : Array Value), Bd.PAt S w b cs → Bd.PAt T w b cs
 | .mk n q d l, cs, h => by
  rw [BdPAt_mk] at h ⊢
  obtain ⟨m1, l1, m2, l2, lv, e, hn, hd, hl⟩ := h
  refine ⟨m1, l1, m2, l2, lv, e, hn.mono k, hd.mono k, ?_⟩
  rcases hl with hl | ⟨g, o, cap, arr, fz, h1, h2, h3, h4⟩
  ·exact .inl hl
  ·exact .inr ⟨g, o, cap, arr, fz, h1, k g h2, h3, Bds.PAt.mono k l arr o h4⟩
theorem Bds.PAt.mono {S T : Nat → Prop} {w : World} (k : ∀ g, S g → T g) : ∀ (l : List Bd) (arr : Array Value) (o : Nat), Bds.PAt S w l arr o → Bds.PAt T w l arr o
 | [], _, _, _ => by unfold Bds.PAt; trivial
 | b :: l, arr, o, h => by
  unfold Bds.PAt at h ⊢
  obtain ⟨⟨cs, hc, hd⟩, hr⟩ := h
  exact ⟨⟨cs, hc, Bd.PAt.mono k b cs hd⟩, Bds.PAt.mono k l arr (o + 12) hr⟩
end
theorem Bds.PAt.get {S : Nat → Prop} {w : World} : ∀ (l : List Bd) (arr : Array Value) (o : Nat), Bds.PAt S w l arr o → ∀ j (h : j < l.length), ∃ cs, (∀ i, i < 12 → arr[o + 12 * j + i]? = cs[i]?) ∧ Bd.PAt S w l[j] cs
 | [], _, _, _, j, h => by simp at h
 | b :: l, arr, o, H, j, h => by
  unfold Bds.PAt at H
  cases j with
  | zero => simpa using H.1
  | succ j =>
   obtain ⟨cs, h1, h2⟩ := Bds.PAt.get l arr (o + 12) H.2 j (by simpa using h)
   exact ⟨cs, fun i hi => by rw [← h1 i hi]; congr 1; omega, h2⟩
theorem Bds.PAt.of_get {S : Nat → Prop} {w : World} : ∀ (l : List Bd) (arr : Array Value) (o : Nat), (∀ j (h : j < l.length), ∃ cs, (∀ i, i < 12 → arr[o + 12 * j + i]? = cs[i]?) ∧ Bd.PAt S w l[j] cs) → Bds.PAt S w l arr o
 | [], _, _, _ => by unfold Bds.PAt; trivial
 | b :: l, arr, o, H => by
  unfold Bds.PAt
  refine ⟨?_, Bds.PAt.of_get l arr (o + 12) fun j h => ?_⟩
  ·have := H 0 (by simp)
   simpa using this
  ·obtain ⟨cs, h1, h2⟩ := H (j + 1) (by simpa using h)
   exact ⟨cs, fun i hi => by rw [← h1 i hi]; congr 1; omega, by simpa using h2⟩
theorem PsAt.keeps {S : Nat → Prop} {w w' : World} {lv : Value} {l : List Bd} (h : PsAt S w lv l) (k : KeepsB S w w') : PsAt S w' lv l := by
 rcases h with h | ⟨g, o, cap, arr, fz, h1, h2, h3, h4⟩
 ·exact .inl h
 ·obtain ⟨fz', h5⟩ := k g arr 60 fz h2 h3
  exact .inr ⟨g, o, cap, arr, fz', h1, h2, h5, Bds.PAt.keeps k l arr o h4⟩
theorem PsAt.mono {S T : Nat → Prop} {w : World} {lv : Value} {l : List Bd} (h : PsAt S w lv l) (k : ∀ g, S g → T g) : PsAt T w lv l := by
 rcases h with h | ⟨g, o, cap, arr, fz, h1, h2, h3, h4⟩
 ·exact .inl h
 ·exact .inr ⟨g, o, cap, arr, fz, h1, k g h2, h3, Bds.PAt.mono k l arr o h4⟩
theorem PsAt.form {S : Nat → Prop} {w : World} {v : Value} {l : List Bd} (h : PsAt S w v l) : ∃ ao c, v = .slice ao l.length c := by
 rcases h with ⟨rfl, rfl⟩ | ⟨g, o, cap, arr, fz, rfl, _⟩
 ·exact ⟨none, 0, rfl⟩
 ·exact ⟨_, _, rfl⟩
theorem PsAt.one {S : Nat → Prop} {w : World} {v : Value} {l : List Bd} (h : PsAt S w v l) : v.oneCell' = true := by
 obtain ⟨ao, c, rfl⟩ := h.form; rfl
/-- The twelve cells of a binding, one by one. -/
theorem BdPAt_twelve {S : Nat → Prop} {w : World} {b : Bd} {cs : Array Value} (h : Bd.PAt S w b cs) : ∃ m1 l1 m2 l2 lv, cs = #[.int .i64 b.name.kind, .string b.name.text, m1, l1, .int .i64 b.name.place, .int .i64 b.deep, .int .i64 b.dat.kind, .string b.dat.text, m2, l2, .int .i64 b.dat.place, lv] ∧
  Dt.At S w b.name #[.int .i64 b.name.kind, .string b.name.text, m1, l1, .int .i64 b.name.place] ∧ Dt.At S w b.dat #[.int .i64 b.dat.kind, .string b.dat.text, m2, l2, .int .i64 b.dat.place] ∧ PsAt S w lv b.rows ∧
  m1.oneCell' = true ∧ l1.oneCell' = true ∧ m2.oneCell' = true ∧ l2.oneCell' = true ∧ lv.oneCell' = true := by
 cases b with
 | mk n q d l =>
  rw [BdPAt_mk] at h
  obtain ⟨m1, l1, m2, l2, lv, e, hn, hd, hl⟩ := h
  exact ⟨m1, l1, m2, l2, lv, by rw [e]; simp [Dt.five, Bd.name, Bd.deep, Bd.dat], hn, hd, hl, (At_one hn).1, (At_one hn).2, (At_one hd).1, (At_one hd).2, hl.one⟩
theorem PsAt.get {S : Nat → Prop} {w : World} {ao : Option Addr} {n cap : Nat} {l : List Bd} (h : PsAt S w (.slice ao n cap) l) (j : Nat) (hj : j < l.length) :
  ∃ g o arr fz cs, ao = some ⟨g, o, none⟩ ∧ S g ∧ w.heap[g]? = some (.cells arr 60 fz) ∧ (∀ i, i < 12 → w.cell? ⟨g, o + j * 12 + i, none⟩ = cs[i]?) ∧ Bd.PAt S w l[j] cs := by
 rcases h with ⟨_, rfl⟩ | ⟨g, o, cap', arr, fz, e, hS, hg, hd⟩
 ·simp at hj
 ·injection e with e1 e2 e3
  subst e1
  obtain ⟨cs, h1, h2⟩ := Bds.PAt.get l arr o hd j hj
  exact ⟨g, o, arr, fz, cs, rfl, hS, hg, fun i hi => by rw [Lib.cell_of_heap hg, show o + j * 12 + i = o + 12 * j + i by omega]; exact h1 i hi, h2⟩
end Go.Proofs.Ytecljchifebljaa
namespace Go.Proofs.Ytecljchifebljaa
open Go Go.RowKit
/-- The places of the parts that are no dots, from place i on. -/
def pixF : List Dt → Nat → List Nat
 | [], _ => []
 | d :: r, i => if d.dots = true then pixF r (i + 1) else i :: pixF r (i + 1)
def pix (l : List Dt) : List Nat := pixF l 0
theorem pixF_mem : ∀ (l : List Dt) (i j : Nat), j ∈ pixF l i → i ≤ j ∧ j < i + l.length
 | [], _, _, h => by simp [pixF] at h
 | d :: r, i, j, h => by
  unfold pixF at h
  split at h
  ·have := pixF_mem r (i + 1) j h; simp only [List.length_cons]; omega
  ·rcases List.mem_cons.1 h with rfl | h
   ·simp
   ·have := pixF_mem r (i + 1) j h; simp only [List.length_cons]; omega
theorem pix_lt {l : List Dt} {k : Nat} (h : k < (pix l).length) : (pix l)[k] < l.length := by
 have := pixF_mem l 0 _ (List.getElem_mem h); omega
/-- The k-th part, as yield is handed it. -/
def partA (cf : Nat → Array Value) (l : List Dt) (k : Nat) : Array Value :=
 match (pix l)[k]? with
 | some j => #[.agg (cf j), .bool (nxtDots (l.drop (j + 1)))]
 | none => #[.agg #[], .bool false]
theorem partA_size (cf : Nat → Array Value) (l : List Dt) (k : Nat) : (partA cf l k).size = 2 := by
 unfold partA; split <;> rfl
theorem partA_at (cf : Nat → Array Value) (l : List Dt) (k : Nat) (h : k < (pix l).length) : partA cf l k = #[.agg (cf (pix l)[k]), .bool (nxtDots (l.drop ((pix l)[k] + 1)))] := by
 unfold partA; rw [List.getElem?_eq_getElem h]
/-- cf tells the cells of l's parts. -/
def CfAt (S : Nat → Prop) (w : World) (lv : Value) (l : List Dt) (cf : Nat → Array Value) : Prop :=
 ∀ j (h : j < l.length), Dt.At S w l[j] (cf j) ∧ ∀ g o n c, lv = .slice (some ⟨g, o, none⟩) n c → S g ∧ ∀ i, i < 5 → w.cell? ⟨g, o + j * 5 + i, none⟩ = (cf j)[i]?
theorem CfAt.of {S : Nat → Prop} {w : World} {lv : Value} {l : List Dt} (h : LAt S w lv l) : ∃ cf, CfAt S w lv l cf := by
 obtain ⟨ao, cap, rfl⟩ := h.form
 refine ⟨fun j => if hj : j < l.length then (let H := h.get j hj; (match ao with | some a => #[(w.cell? ⟨a.block, a.off + j * 5, none⟩).getD undef, (w.cell? ⟨a.block, a.off + j * 5 + 1, none⟩).getD undef, (w.cell? ⟨a.block, a.off + j * 5 + 2, none⟩).getD undef, (w.cell? ⟨a.block, a.off + j * 5 + 3, none⟩).getD undef, (w.cell? ⟨a.block, a.off + j * 5 + 4, none⟩).getD undef] | none => #[])) else #[], fun j hj => ?_⟩
 obtain ⟨g, o, k5, t5, mv5, lv5, p5, rfl, hS, _, hat, e0, e1, e2, e3, e4, o5, o6⟩ := h.get j hj
 have e : (if hj : j < l.length then (let H := h.get j hj; (match (some ⟨g, o, none⟩ : Option Addr) with | some a => #[(w.cell? ⟨a.block, a.off + j * 5, none⟩).getD undef, (w.cell? ⟨a.block, a.off + j * 5 + 1, none⟩).getD undef, (w.cell? ⟨a.block, a.off + j * 5 + 2, none⟩).getD undef, (w.cell? ⟨a.block, a.off + j * 5 + 3, none⟩).getD undef, (w.cell? ⟨a.block, a.off + j * 5 + 4, none⟩).getD undef] | none => #[])) else #[]) = #[.int .i64 k5, .string t5, mv5, lv5, .int .i64 p5] := by
  rw [dif_pos hj]; simp only [e0, e1, e2, e3, e4, Option.getD_some]
 simp only [e]
 refine ⟨hat, fun g' o' n c e' => ?_⟩
 simp only [Value.slice.injEq, Option.some.injEq, Addr.mk.injEq, and_true] at e'
 obtain ⟨⟨rfl, rfl⟩, _⟩ := e'
 refine ⟨hS, fun i hi => ?_⟩
 match i, hi with
 | 0, _ => exact e0
 | 1, _ => exact e1
 | 2, _ => exact e2
 | 3, _ => exact e3
 | 4, _ => exact e4
theorem KeepsB.refl (S : Nat → Prop) (w : World) : KeepsB S w w := fun g c T fz _ h => ⟨fz, h⟩
theorem KeepsB.trans {S : Nat → Prop} {a b c : World} (h : KeepsB S a b) (k : KeepsB S b c) : KeepsB S a c := by
 intro g cs T fz hs hg
 obtain ⟨f1, h1⟩ := h g cs T fz hs hg
 exact k g cs T f1 hs h1
theorem KeepsB.cell {S : Nat → Prop} {a b : World} (h : KeepsB S a b) {g o : Nat} (hs : S g) {v : Value} (hc : a.cell? ⟨g, o, none⟩ = some v) : b.cell? ⟨g, o, none⟩ = some v := by
 unfold World.cell? at hc ⊢
 simp only [] at hc ⊢
 split at hc
 ·next c T fz hg =>
  obtain ⟨fz', h2⟩ := h g c T fz hs hg
  rw [h2]; exact hc
 ·cases hc
/-- The turn of a block that is no cells keeps all cells. -/
theorem keepsB_putObj {S : Nat → Prop} (W : World) (l : Nat) (o o' : Obj) (hl : W.heap[l]? = some o) (ho : o.isCells = false) : KeepsB S W (W.putObj l o') := by
 intro g c T fz hs hg
 have hne : g ≠ l := by intro e; subst e; rw [hg] at hl; cases hl; cases ho
 exact ⟨fz, (World.putObj_heap_other hne).trans hg⟩
theorem KeepsB.of_turn {S : Nat → Prop} {w w' : World} {row : Option Nat} (h : w.grownBy w' row) (hr : ∀ r, row = some r → ∃ o : Obj, w.heap[r]? = some o ∧ o.isCells = false) : KeepsB S w w' := by
 intro g c T fz hs hg
 refine ⟨fz, (h.block g (Array.getElem?_eq_some_iff.1 hg).1 fun e => ?_).trans hg⟩
 obtain ⟨o, ho, hc⟩ := hr g e.symm
 rw [hg] at ho; cases ho; cases hc
theorem parts_any (k : Int) (t : ByteArray) (mv lv : Value) (p : Int) (hm : mv.oneCell' = true) (hl : lv.oneCell' = true) (w : World) :
  Calls Try.prog 71 #[.agg #[.int .i64 k, .string t, mv, lv, .int .i64 p]] w fun e w' => e = .returned (.func (.func 87) #[] #[.pointer (some ⟨w.heap.size, 0, none⟩)]) ∧ w' = w.alloc (.cells #[.int .i64 k, .string t, mv, lv, .int .i64 p] 29) := by
 go_enter Try.func71, Try.ntmps71
 go_wp2
 go_ret
 exact ⟨rfl, rfl⟩
end Go.Proofs.Ytecljchifebljaa
namespace Go.Proofs.Ytecljchifebljaa
open Go Go.RowKit
/-- A row of bindings that the call owns (from block B on); what they lead to lies in S. -/
def OwnPI (S : Nat → Prop) (B : Nat) (w : World) (v : Value) (bs : List Bd) : Prop :=
 ∃ xs, w.ownsRow B 60 12 v bs.length xs ∧ ∀ j (h : j < bs.length), ∃ cs : Array Value, cs.size = 12 ∧ (∀ i, i < 12 → xs[12 * j + i]? = cs[i]?) ∧ Bd.PAt S w bs[j] cs
theorem OwnPI.at {S : Nat → Prop} {B : Nat} {w : World} {v : Value} {bs : List Bd} (h : OwnPI S B w v bs) : PsAt (fun g => S g ∨ v.ownBlock = some g) w v bs := by
 obtain ⟨xs, hown, hd⟩ := h
 rcases hown.2 with ⟨rfl, hz⟩ | ⟨g, cap, cur, rfl, hbg, hg, hnc, hcm, hcs, htake⟩
 ·exact .inl ⟨rfl, List.length_eq_zero_iff.1 hz⟩
 ·refine .inr ⟨g, 0, cap, cur, (0, 0), rfl, .inr rfl, hg, Bds.PAt.of_get _ _ _ fun j hj => ?_⟩
  obtain ⟨cs, h5, h1, h2⟩ := hd j hj
  refine ⟨cs, fun i hi => ?_, Bd.PAt.mono (fun g h => .inl h) _ _ h2⟩
  rw [← h1 i hi, ← htake, List.getElem?_take, if_pos (by omega)]
  simp
theorem OwnPI.form {S : Nat → Prop} {B : Nat} {w : World} {v : Value} {bs : List Bd} (h : OwnPI S B w v bs) : ∃ ao c, v = .slice ao bs.length c := h.at.form
theorem OwnPI.low {S : Nat → Prop} {B : Nat} {w : World} {v : Value} {bs : List Bd} (h : OwnPI S B w v bs) : ∀ x, v.ownBlock = some x → B ≤ x ∧ x < w.heap.size := by
 obtain ⟨xs, ho, _⟩ := h
 exact ho.lt
/-- It stands where its row and what lies in S stand. -/
theorem OwnPI.kept {S : Nat → Prop} {B : Nat} {w w' : World} {v : Value} {bs : List Bd} {row : Option Nat} (h : OwnPI S B w v bs) (hg : w.grownBy w' row) (hr : v.ownBlock = none ∨ v.ownBlock ≠ row) (hk : KeepsB S w w') : OwnPI S B w' v bs := by
 obtain ⟨xs, ho, hd⟩ := h
 refine ⟨xs, ho.kept hg hr, fun j hj => ?_⟩
 obtain ⟨cs, h5, h1, h3⟩ := hd j hj
 exact ⟨cs, h5, h1, Bd.PAt.keeps hk _ _ h3⟩
theorem OwnPI.below {S : Nat → Prop} {B : Nat} {w w' : World} {v : Value} {bs : List Bd} (h : OwnPI S B w v bs) (hb : Below w.heap.size w w') : OwnPI S B w' v bs :=
 h.kept (Below.grownRow hb none) (by cases v.ownBlock <;> simp) (KeepsB.of_below hb)
def ZPB : Array Value := #[.int .i64 0, .string ⟨#[]⟩, .slice none 0 0, .slice none 0 0, .int .i64 0, .int .i64 0, .int .i64 0, .string ⟨#[]⟩, .slice none 0 0, .slice none 0 0, .int .i64 0, .slice none 0 0]
theorem infoP12 : (Try.prog.info? 60).map (fun i => (i.zero, i.size, i.bytes)) = some (some (.agg ZPB), 12, 192) := by kernel_rfl
def RetCl (S : Nat → Prop) (B : Nat) (bs : List Bd) (w : World) (e : Ending) (w' : World) : Prop := ∃ v, e = .returned v ∧ OwnPI S w.heap.size w' v bs ∧ Below w.heap.size w w'
theorem cells_of_row {S : Nat → Prop} {w : World} {l : List Bd} {g o : Nat} {arr : Array Value} {fz : Nat × Nat} (hg : w.heap[g]? = some (.cells arr 60 fz)) (h : Bds.PAt S w l arr o) :
  ∃ xs : List Value, xs.length = l.length * 12 ∧ (∀ u ∈ xs, u.oneCell' = true) ∧ (∀ j u, xs[j]? = some u → w.cell? ⟨g, o + j, none⟩ = some u) ∧ ∀ j (hj : j < l.length), ∃ cs : Array Value, cs.size = 12 ∧ (∀ i, i < 12 → xs[12 * j + i]? = cs[i]?) ∧ Bd.PAt S w l[j] cs := by
 have hall : ∀ j (hj : j < l.length), ∃ cs : Array Value, cs.size = 12 ∧ (∀ i, i < 12 → arr[o + 12 * j + i]? = cs[i]?) ∧ Bd.PAt S w l[j] cs ∧ ∀ u ∈ cs.toList, u.oneCell' = true := by
  intro j hj
  obtain ⟨cs, h1, h2⟩ := Bds.PAt.get l arr o h j hj
  obtain ⟨m1, l1, m2, l2, lv, e, _, _, _, o1, o2, o3, o4, o5⟩ := BdPAt_twelve h2
  refine ⟨cs, by rw [e]; rfl, h1, h2, fun u hu => ?_⟩
  rw [e] at hu
  simp only [List.mem_cons, List.not_mem_nil, or_false] at hu
  rcases hu with rfl | rfl | rfl | rfl | rfl | rfl | rfl | rfl | rfl | rfl | rfl | rfl <;> first | rfl | assumption
 have hin : ∀ k, k < l.length * 12 → ∃ u, arr[o + k]? = some u ∧ u.oneCell' = true := by
  intro k hk
  obtain ⟨cs, c5, h1, _, h3⟩ := hall (k / 12) (by omega)
  have hm : k % 12 < 12 := Nat.mod_lt _ (by decide)
  have e := h1 (k % 12) hm
  rw [show o + 12 * (k / 12) + k % 12 = o + k by omega, Array.getElem?_eq_getElem (xs := cs) (by rw [c5]; exact hm)] at e
  exact ⟨_, e, h3 _ (Array.mem_toList_iff.2 (Array.getElem_mem (by rw [c5]; exact hm)))⟩
 have hlen : ((arr.toList.drop o).take (l.length * 12)).length = l.length * 12 := by
  rw [List.length_take, List.length_drop]
  rcases Nat.eq_zero_or_pos l.length with h0 | h0
  ·rw [h0]; simp
  ·obtain ⟨u, hu, _⟩ := hin (l.length * 12 - 1) (by omega)
   have := (Array.getElem?_eq_some_iff.1 hu).1
   simp only [Array.length_toList]; omega
 have hget : ∀ k, k < l.length * 12 → ((arr.toList.drop o).take (l.length * 12))[k]? = arr[o + k]? := by
  intro k hk
  rw [List.getElem?_take, if_pos hk, List.getElem?_drop]; simp
 refine ⟨(arr.toList.drop o).take (l.length * 12), hlen, fun u hu => ?_, fun j u hj => ?_, fun j hj => ?_⟩
 ·obtain ⟨k, hk⟩ := List.mem_iff_getElem?.1 hu
  have hkl : k < l.length * 12 := by rw [← hlen]; exact (List.getElem?_eq_some_iff.1 hk).1
  rw [hget k hkl] at hk
  obtain ⟨u', hu', h1⟩ := hin k hkl
  rw [hk] at hu'; injection hu' with e; rw [e]; exact h1
 ·have hkl : j < l.length * 12 := by rw [← hlen]; exact (List.getElem?_eq_some_iff.1 hj).1
  rw [hget j hkl] at hj
  rw [Lib.cell_of_heap hg]; exact hj
 ·obtain ⟨cs, c5, h1, h2, _⟩ := hall j hj
  refine ⟨cs, c5, fun i hi => ?_, h2⟩
  rw [hget _ (by omega), ← h1 i hi]; congr 1; omega
theorem eq_nil40 (a : Addr) (n c : Nat) (w : World) : (binOp .eql 40 (.slice (some a) n c) (.slice none 0 0)).run Try.prog w = .ok (.bool false) w := by kernel_rfl
theorem nil_nil40 (w : World) : (binOp .eql 40 (.slice none 0 0) (.slice none 0 0)).run Try.prog w = .ok (.bool true) w := by kernel_rfl
theorem add_at (g o j : Nat) : (⟨g, o, none⟩ : Addr).add j = ⟨g, o + j, none⟩ := by unfold Addr.add; split <;> simp_all
set_option maxHeartbeats 8000000 in
set_option maxRecDepth 100000 in
theorem clone_any {S : Nat → Prop} (bs : List Bd) (v : Value) (w : World) (hv : PsAt S w v bs) (hl : bs.length ≤ 10000000) : Calls Try.prog 68 #[v] w (RetCl S w.heap.size bs w) := by
 rcases hv with ⟨rfl, rfl⟩ | ⟨g, o, cap, arr, fz, rfl, hS, hg, hd⟩
 ·have HQ := nil_nil40
  go_enter Try.func68, Try.ntmps68
  go_wp2_with fail
  go_ret
  exact ⟨_, rfl, ⟨[], World.ownsRow_nil _ _ _ _, fun j h => by simp at h⟩, Below.refl _ _⟩
 ·obtain ⟨xs, hxl, hx1, hxc, hxd⟩ := cells_of_row hg hd
  have hgl : g < w.heap.size := (Array.getElem?_eq_some_iff.1 hg).1
  obtain ⟨i, hi, hz, hs, hb⟩ := info_parts infoP12
  have HQ := fun w => eq_nil40 ⟨g, o, none⟩ bs.length cap w
  have hb0 : Below w.heap.size w (w.alloc (.cells #[] 60)) := (Below.refl _ _).alloc (Nat.le_refl _) _
  have hown0 : (w.alloc (.cells #[] 60)).ownsRow w.heap.size 60 12 (.slice (some ⟨w.heap.size, 0, none⟩) 0 0) 0 [] := ⟨rfl, .inr ⟨w.heap.size, 0, #[], rfl, Nat.le_refl _, alloc_at w _, Nat.le_refl _, by decide, rfl, rfl⟩⟩
  have hcell : ∀ j u, xs[j]? = some u → (w.alloc (.cells #[] 60)).cell? ((⟨g, o, none⟩ : Addr).add j) = some u := fun j u hu => by
   rw [add_at]
   exact (hb0.cell (p := ⟨g, o + j, none⟩) hgl).trans (hxc j u hu)
  have HXD := Lib.hid hxd
  have HB0 := Lib.hid hb0
  have hbs1 : 0 + bs.length ≤ maxLen := Nat.le_trans (by omega : 0 + bs.length ≤ 10000000) (by decide)
  have hbs2 : (0 + bs.length) * 192 ≤ 140737488355328 := by omega
  have hbs3 : w.heap.size ≤ (w.alloc (.cells #[] 60)).heap.size := by simp
  have HS := Lib.hid hd
  clear hxd hb0 hd hg hxc
  go_enter Try.func68, Try.ntmps68
  go_wp2_with (at_builtin; refine wpList_append_own_at _ rfl _ _ 40 rfl w.heap.size 60 i (.agg ZPB) 12 192 Try.underlying40 hi hz hs hb rfl (by decide) _ _ _ rfl hown0 ⟨g, o, none⟩ bs.length cap xs rfl hxl hcell hx1 hbs1 hbs2 hbs3 ?_; intro v' w1 hown' hgrow hnil hloc)
  go_ret
  have hbw : Below w.heap.size w w1 := HB0.out.grown hgrow hbs3 (fun k e => by cases e; exact Nat.le_refl _)
  refine ⟨_, rfl, ⟨xs, by simpa using hown', fun j hj => ?_⟩, hbw⟩
  obtain ⟨cs, c5, h1, h2⟩ := HXD.out j hj
  exact ⟨cs, c5, h1, Bd.PAt.keeps (KeepsB.of_below hbw) _ _ h2⟩
end Go.Proofs.Ytecljchifebljaa
