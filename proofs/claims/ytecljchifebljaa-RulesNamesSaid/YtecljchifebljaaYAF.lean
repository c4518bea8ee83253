/- The document's reader: put: what holds in its loop. -/
import Derived.Test.YtecljchifebljaaYAE
import Derived.Test.YtecljchifebljaaYAA
set_option linter.unusedVariables false
set_option linter.unusedSimpArgs false
namespace Go.Proofs.Ytecljchifebljaa
open Go.RowKit Go.BigM
/-- What holds in put's loop: the datum d lies in the box N. -/
structure PI (D : Nat → Prop) (N g : Nat) (s : ByteArray) (p : Nat) (es : List En) (out : List Dt) (d : Dt) (cs : Array Value) (w wr : World) : Prop where
 rd : RdAt D N wr g s p es out
 dat : Dt.At (fun x => D x ∨ N + 1 ≤ x) wr d cs
 box : Boxed N cs wr
 low : Below g w wr
 size : N + 1 ≤ wr.heap.size
theorem PI.below {D : Nat → Prop} {N g : Nat} {s : ByteArray} {p : Nat} {es : List En} {out : List Dt} {d : Dt} {cs : Array Value} {w wr X : World} (h : PI D N g s p es out d cs w wr) (hgN : g < N) (hb : Below wr.heap.size wr X) : PI D N g s p es out d cs w X := by
 have hs := hb.size
 have h1 := h.size
 refine ⟨h.rd.keep (fun x _ hx => hb.block x (by omega)) hgN (by omega), Dt.At.keeps (Keeps.of_below hb) _ _ h.dat, ?_, h.low.trans (hb.mono (by omega)), by omega⟩
 have := h.box
 unfold Boxed at this ⊢
 rw [hb.block N (by omega)]; exact this
theorem PI.start {D : Nat → Prop} {g : Nat} {s : ByteArray} {p : Nat} {es : List En} {out : List Dt} {d : Dt} {cs : Array Value} {w : World} (h : RdAt D w.heap.size w g s p es out) (hg : g < w.heap.size) (hd : Dt.At D w d cs) : PI D w.heap.size g s p es out d cs w (w.alloc (.cells cs 29)) := by
 have hb : Below w.heap.size w (w.alloc (.cells cs 29)) := (Below.refl _ _).alloc (Nat.le_refl _) _
 refine ⟨h.keep (fun x _ hx => hb.block x hx) hg (by simp), ?_, alloc_at w _, hb.mono (by omega), by simp⟩
 exact Dt.At.mono (fun x h => .inl h) _ _ (Dt.At.keeps (Keeps.of_below hb) _ _ hd)
theorem rs3_of {w : World} {g p : Nat} {s : ByteArray} {a b : Value} {w' : World} (h : Rs3 w g s p a b) (e : w'.heap[g]? = w.heap[g]?) : Rs3 w' g s p a b := by
 unfold Rs3 at h ⊢; rw [e]; exact h
/-- What put leaves of one that is open, of what kind it may be. -/
theorem PI.top {D : Nat → Prop} {N g : Nat} {s : ByteArray} {p : Nat} {e : En} {r : List En} {out : List Dt} {d : Dt} {k : Int} {t : ByteArray} {mv lv : Value} {pl : Int} {w wr : World} (h : PI D N g s p (e :: r) out d #[.int .i64 k, .string t, mv, lv, .int .i64 pl] w wr) (hgN : g < N) (hws : w.heap.size = N) :
  ∃ og c lo ln lc, wr.cell? ⟨g, 2, none⟩ = some (.slice (some ⟨og, 0, none⟩) (r.length + 1) c) ∧ r.length + 1 ≤ c ∧ c ≤ maxLen ∧ og < wr.heap.size ∧
   (wr.cell? ⟨og, r.length * 3, none⟩ = some (.bool e.q) ∧ wr.cell? ⟨og, r.length * 3 + 1, none⟩ = some (.int .i64 e.pl) ∧ wr.cell? ⟨og, r.length * 3 + 2, none⟩ = some (.slice lo ln lc)) ∧
   ∀ X, Below wr.heap.size wr X → wr.heap.size < X.heap.size →
    (X.cell? ⟨g, 2, none⟩ = some (.slice (some ⟨og, 0, none⟩) (r.length + 1) c) ∧ X.frozen? ⟨g, 2, none⟩ = false ∧ Boxed N #[.int .i64 k, .string t, mv, lv, .int .i64 pl] X) ∧
    (e.q = true → (Below wr.heap.size wr (X.setCell ⟨g, 2, none⟩ (.slice (some ⟨og, 0, none⟩) r.length c)) ∨ True) ∧ Boxed N #[.int .i64 k, .string t, mv, lv, .int .i64 pl] (X.setCell ⟨g, 2, none⟩ (.slice (some ⟨og, 0, none⟩) r.length c)) ∧
     ∃ D2, PI D2 N g s p r out (e.add d).dt #[.int .i64 4, .string ⟨#[]⟩, .slice none 0 0, .slice (some ⟨X.heap.size, 0, none⟩) 2 2, .int .i64 e.pl] w
      (((X.setCell ⟨g, 2, none⟩ (.slice (some ⟨og, 0, none⟩) r.length c)).alloc (.cells #[.int .i64 3, .string ⟨#[113, 117, 111, 116, 101]⟩, .slice none 0 0, .slice none 0 0, .int .i64 e.pl, .int .i64 k, .string t, mv, lv, .int .i64 pl] 29)).setRow N #[.int .i64 4, .string ⟨#[]⟩, .slice none 0 0, .slice (some ⟨X.heap.size, 0, none⟩) 2 2, .int .i64 e.pl])) ∧
    (e.q = false → ln = e.ds.length ∧ ∃ xs, (X.alloc (.cells #[.int .i64 k, .string t, mv, lv, .int .i64 pl] 29)).ownsRow (g + 1) 29 5 (.slice lo ln lc) ln xs ∧ g + 1 ≤ (X.alloc (.cells #[.int .i64 k, .string t, mv, lv, .int .i64 pl] 29)).heap.size ∧
     ∀ v' w9, w9.ownsRow (g + 1) 29 5 v' (ln + 1) (xs ++ [.int .i64 k, .string t, mv, lv, .int .i64 pl]) → (X.alloc (.cells #[.int .i64 k, .string t, mv, lv, .int .i64 pl] 29)).grownBy w9 (Value.slice lo ln lc).ownBlock → (v'.ownBlock = (Value.slice lo ln lc).ownBlock ∨ v'.ownBlock = some (X.alloc (.cells #[.int .i64 k, .string t, mv, lv, .int .i64 pl] 29)).heap.size) →
      (∀ x, x = g ∨ x = wr.heap.size ∨ x = N → w9.heap[x]? = X.heap[x]?) ∧ w9.cell? ⟨og, r.length * 3 + 2, none⟩ = some (.slice lo ln lc) ∧ w9.frozen? ⟨og, r.length * 3 + 2, none⟩ = false ∧
      (∀ x, x = g ∨ x = wr.heap.size ∨ x = N → (w9.setCell ⟨og, r.length * 3 + 2, none⟩ v').heap[x]? = X.heap[x]?) ∧ RetPut g s p (e.add d :: r, out) w (.returned (.tuple #[])) (w9.setCell ⟨og, r.length * 3 + 2, none⟩ v')) := by
 have hsz := h.size
 obtain ⟨og, c, arr, lw, dv, hR, hnc, hcm, hgo, hoN, hh, hcs, ⟨a0, a1, a2⟩, ⟨lo, lc, hlf⟩, hq, hlB, _, _, _⟩ := h.rd.top hgN
 obtain ⟨ln, hln⟩ : ∃ ln, ln = (if e.q = true then [] else e.ds).length := ⟨_, rfl⟩
 rw [← hln] at hlf
 subst hlf
 refine ⟨og, c, lo, ln, lc, hR.cells.2.2.1, hnc, hcm, by omega, ⟨?_, ?_, ?_⟩, fun X hb hX => ?_⟩
 ·rw [Lib.cell_of_heap hh]; exact a0
 ·rw [Lib.cell_of_heap hh]; exact a1
 ·rw [Lib.cell_of_heap hh]; exact a2
 have hP := h.below hgN hb
 have hs := hb.size
 obtain ⟨og', c', arr', lw', dv', hR', _, _, _, _, hh', _, ⟨a0', a1', a2'⟩, _, _, hlB', hpop, _, hadd⟩ := hP.rd.top hgN
 have hg2 : X.heap[g]? = wr.heap[g]? := hb.block g (by omega)
 have e1 := hR'
 unfold Rs3 at e1 hR
 rw [hg2, hR] at e1
 injection e1 with e1
 injection e1 with e1 _ _
 simp only [Array.mk.injEq, List.cons.injEq, Value.slice.injEq, Option.some.injEq, Addr.mk.injEq, and_true, true_and] at e1
 obtain ⟨⟨rfl, rfl⟩, rfl⟩ := e1
 rw [hb.block og (by omega), hh] at hh'
 injection hh' with hh'
 injection hh' with hh' _ _
 subst hh'
 rw [a2] at a2'
 injection a2' with a2'
 subst a2'
 refine ⟨⟨hR'.cells.2.2.1, hR'.frozen 2, hP.box⟩, fun hqt => ⟨.inr trivial, ?_, ?_⟩, fun hqf => ?_⟩
 ·have := hP.box
  unfold Boxed at this ⊢
  rw [Below.heap_setCell X _ _ N (by show N ≠ g; omega)]; exact this
 ·obtain ⟨X1, hX1⟩ : ∃ X1, X1 = X.setCell ⟨g, 2, none⟩ (.slice (some ⟨og, 0, none⟩) r.length c) := ⟨_, rfl⟩
  rw [← hX1] at hpop ⊢
  have hX1s : X1.heap.size = X.heap.size := by rw [hX1]; simp [World.setCell]
  have hX1o : ∀ x, x ≠ g → X1.heap[x]? = X.heap[x]? := fun x hx => by rw [hX1]; exact Below.heap_setCell X _ _ x hx
  obtain ⟨X2, hX2⟩ : ∃ X2, X2 = X1.alloc (.cells #[.int .i64 3, .string ⟨#[113, 117, 111, 116, 101]⟩, .slice none 0 0, .slice none 0 0, .int .i64 e.pl, .int .i64 k, .string t, mv, lv, .int .i64 pl] 29) := ⟨_, rfl⟩
  have hX2n := alloc_at X1 (.cells #[.int .i64 3, .string ⟨#[113, 117, 111, 116, 101]⟩, .slice none 0 0, .slice none 0 0, .int .i64 e.pl, .int .i64 k, .string t, mv, lv, .int .i64 pl] 29)
  rw [← hX2, hX1s] at hX2n
  have hX2o : ∀ x, x < X.heap.size → X2.heap[x]? = X1.heap[x]? := fun x hx => by rw [hX2]; exact Lib.alloc_old X1 _ x (by omega)
  have hX2s : X2.heap.size = X.heap.size + 1 := by rw [hX2]; simp [hX1s]
  rw [← hX2]
  have hboxX : X2.heap[N]? = some (.cells #[.int .i64 k, .string t, mv, lv, .int .i64 pl] 29 (0, 0)) := by
   rw [hX2o N (by omega), hX1o N (by omega)]; exact hP.box
  obtain ⟨X3, hX3⟩ : ∃ X3, X3 = X2.setRow N #[.int .i64 4, .string ⟨#[]⟩, .slice none 0 0, .slice (some ⟨X.heap.size, 0, none⟩) 2 2, .int .i64 e.pl] := ⟨_, rfl⟩
  have hX3N : X3.heap[N]? = some (.cells #[.int .i64 4, .string ⟨#[]⟩, .slice none 0 0, .slice (some ⟨X.heap.size, 0, none⟩) 2 2, .int .i64 e.pl] 29 (0, 0)) := by rw [hX3]; exact setRow_box X2 N _ _ hboxX
  have hX3o : ∀ x, x ≠ N → X3.heap[x]? = X2.heap[x]? := fun x hx => by rw [hX3]; exact setRow_other X2 N x _ hx
  have hX3s : X3.heap.size = X2.heap.size := by rw [hX3]; simp
  rw [← hX3]
  have hlN : ∀ x, (Value.slice lo ln lc).ownBlock = some x → x < N := fun x hx => (hlB x hx).2.1
  refine ⟨_, hpop.keep (fun x _ hx => by rw [hX3o x (by omega), hX2o x (by omega)]) hgN (by omega), ?_, hX3N, ?_, by omega⟩
  ·-- the new datum
   have hdd : Dt.At (fun x => (D x ∨ (Value.slice lo ln lc).ownBlock = some x) ∨ N + 1 ≤ x) X3 d #[.int .i64 k, .string t, mv, lv, .int .i64 pl] := by
    have b1 := Dt.At.bound _ _ hP.dat
    obtain ⟨ov0, dv0, xs0, _, _, _, hD0, _⟩ := hP.rd
    have b2 := Dt.At.keeps (w' := X3) (fun x c T fz hx hh _ => ⟨fz, by
     have hxN : x ≠ N := by
      rcases hx.1 with h | h
      ·have := (hD0 x h).2; omega
      ·omega
     have hxg : x ≠ g := by
      rcases hx.1 with h | h
      ·have := (hD0 x h).1; omega
      ·omega
     rw [hX3o x hxN, hX2o x hx.2, hX1o x hxg]; exact hh⟩) _ _ b1
    exact Dt.At.mono (fun x hx => hx.1.imp (fun h => .inl h) id) _ _ b2
   have hds := hq hqt
   have hnew : X3.heap[X.heap.size]? = some (.cells #[.int .i64 3, .string ⟨#[113, 117, 111, 116, 101]⟩, .slice none 0 0, .slice none 0 0, .int .i64 e.pl, .int .i64 k, .string t, mv, lv, .int .i64 pl] 29 (0, 0)) := by rw [hX3o _ (by omega)]; exact hX2n
   have hdt : (e.add d).dt = .mk 4 ⟨#[]⟩ [] [.mk 3 qT [] [] e.pl, d] e.pl := by
    simp [En.dt, En.add, hds]
   rw [hdt, At_mk]
   refine ⟨_, _, rfl, .inl ⟨rfl, rfl⟩, .inr ⟨X.heap.size, 0, 2, _, _, rfl, .inr (by omega), hnew, ?_, by simp⟩⟩
   unfold Dts.At
   refine ⟨⟨#[.int .i64 3, .string ⟨#[113, 117, 111, 116, 101]⟩, .slice none 0 0, .slice none 0 0, .int .i64 e.pl], fun i hi => ?_, ?_⟩, ?_⟩
   ·have h5 : i = 0 ∨ i = 1 ∨ i = 2 ∨ i = 3 ∨ i = 4 := by omega
    rcases h5 with rfl | rfl | rfl | rfl | rfl <;> rfl
   ·rw [At_mk]
    exact ⟨_, _, rfl, .inl ⟨rfl, rfl⟩, .inl ⟨rfl, rfl⟩⟩
   ·unfold Dts.At
    refine ⟨⟨_, fun i hi => ?_, hdd⟩, ?_⟩
    ·have h5 : i = 0 ∨ i = 1 ∨ i = 2 ∨ i = 3 ∨ i = 4 := by omega
     rcases h5 with rfl | rfl | rfl | rfl | rfl <;> rfl
    ·unfold Dts.At; trivial
  ·have l1 : Below g w X1 := by rw [hX1]; exact hP.low.setCell (p := ⟨g, 2, none⟩) (Nat.le_refl _) _
   have l2 : Below g w X2 := by rw [hX2]; exact l1.alloc (by omega) _
   rw [hX3]
   exact below_setRowB l2 _ _ (by omega)
 ·have hlneq : ln = e.ds.length := by rw [hln, hqf]; simp
  refine ⟨hlneq, ?_⟩
  obtain ⟨wa, hwa⟩ : ∃ wa, wa = X.alloc (.cells #[.int .i64 k, .string t, mv, lv, .int .i64 pl] 29) := ⟨_, rfl⟩
  have hwas : wa.heap.size = X.heap.size + 1 := by rw [hwa]; simp
  have hwao : ∀ x, x < X.heap.size → wa.heap[x]? = X.heap[x]? := fun x hx => by rw [hwa]; exact Lib.alloc_old X _ x hx
  have hda : Dt.At (fun x => D x ∨ (N + 1 ≤ x ∧ x < wa.heap.size)) wa d #[.int .i64 k, .string t, mv, lv, .int .i64 pl] := by
   have b1 := Dt.At.keeps (w' := wa) (fun x c T fz hx hh _ => ⟨fz, by rw [hwao x hx.2]; exact hh⟩) _ _ (Dt.At.bound _ _ hP.dat)
   exact Dt.At.mono (fun x hx => by
    rcases hx.1 with h | h
    ·exact .inl h
    ·exact .inr ⟨h, by have := hx.2; omega⟩) _ _ b1
  obtain ⟨xs, hown, hnx⟩ := hadd hqf wa (fun x => D x ∨ (N + 1 ≤ x ∧ x < wa.heap.size)) d #[.int .i64 k, .string t, mv, lv, .int .i64 pl] (fun x _ hx => hwao x (by omega)) (by omega) (fun x h => .inl h) (fun x h => h.imp id (fun h => ⟨by omega, h.2⟩)) rfl hda
  rw [← hlneq] at hown hnx
  rw [← hwa]
  refine ⟨xs, hown, by omega, fun v' w9 h9 hg hv => ?_⟩
  have hs9 := hg.size
  have hlt : ∀ x, (Value.slice lo ln lc).ownBlock = some x → g + 1 ≤ x ∧ x < N ∧ x ≠ og := hlB
  have old : ∀ x, x < X.heap.size → (Value.slice lo ln lc).ownBlock ≠ some x → w9.heap[x]? = X.heap[x]? := fun x hx hn => by
   rw [hg.block x (by omega) (fun e => hn e.symm), hwao x hx]
  have o3 : ∀ x, x = g ∨ x = wr.heap.size ∨ x = N → w9.heap[x]? = X.heap[x]? := fun x hx => old x (by omega) (fun e => by have := hlt x e; omega)
  have hog9 : w9.heap[og]? = some (.cells arr 137 (0, 0)) := by
   rw [old og (by omega) (fun e => (hlt og e).2.2 rfl), hb.block og (by omega)]; exact hh
  have hfin := hnx v' w9 h9 hg (by
   rcases hv with e | e
   ·exact .inl e
   ·exact .inr ⟨_, e, Nat.le_refl _, (h9.lt _ e).2⟩)
  have hse : (w9.setCell ⟨og, r.length * 3 + 2, none⟩ v').heap.size = w9.heap.size := by simp [World.setCell]
  refine ⟨o3, ?_, frozen_of_row w9 og _ arr 137 hog9, fun x hx => ?_, rfl, ?_, by rw [hse]; omega, ?_⟩
  ·rw [Lib.cell_of_heap hog9]; exact a2
  ·rw [Below.heap_setCell w9 _ _ x (by show x ≠ og; omega)]; exact o3 x hx
  ·have hba : Below g w wa := by rw [hwa]; exact hP.low.alloc (by omega) _
   exact (below_grown hba hg (by omega) (fun x hx => by have := (hlt x hx).1; omega)).setCell (p := ⟨og, r.length * 3 + 2, none⟩) (by show g ≤ og; omega) _
  ·rw [hse]
   exact ⟨_, hfin⟩
end Go.Proofs.Ytecljchifebljaa
namespace Go.Proofs.Ytecljchifebljaa
open Go.RowKit Go.BigM
def oln (g : Nat) (w : World) : Nat := match w.cell? ⟨g, 2, none⟩ with | some (.slice _ n _) => n | _ => 0
/-- What holds at the loop's head. -/
def PInv (N g : Nat) (s : ByteArray) (p : Nat) (R : List En × List Dt) (P0 : Nat) (w wr : World) : Prop := ∃ (D : Nat → Prop) (es : List En) (out : List Dt) (d : Dt) (k : Int) (t : ByteArray) (mo : Option Addr) (mn mc : Nat) (lo : Option Addr) (ln lc : Nat) (pl : Int),
 PI D N g s p es out d #[.int .i64 k, .string t, .slice mo mn mc, .slice lo ln lc, .int .i64 pl] w wr ∧ putS d es out = R ∧ Bnd es out P0
theorem agr_facts {g b N : Nat} {X : World} {v u : Value} {k : Int} {t : ByteArray} {mv lv : Value} {pl : Int} (h1 : X.cell? ⟨g, 2, none⟩ = some v) (h2 : X.cell? ⟨b, 2, none⟩ = some u) (h3 : Boxed N #[.int .i64 k, .string t, mv, lv, .int .i64 pl] X) :
  ∀ w' : World, (∀ x, x = g ∨ x = b ∨ x = N → w'.heap[x]? = X.heap[x]?) → (w'.cell? ⟨g, 2, none⟩ = some v ∧ w'.cell? ⟨b, 2, none⟩ = some u) ∧ w'.rangeAt N 0 [.int .i64 k, .string t, mv, lv, .int .i64 pl] := by
 intro w' h
 refine ⟨⟨?_, ?_⟩, box_range ?_⟩
 ·rw [← h1]; simp only [World.cell?]; rw [h g (.inl rfl)]
 ·rw [← h2]; simp only [World.cell?]; rw [h b (.inr (.inl rfl))]
 ·unfold Boxed at h3 ⊢; rw [h N (.inr (.inr rfl))]; exact h3
set_option maxHeartbeats 16000000 in
set_option maxRecDepth 100000 in
theorem put3_any {D : Nat → Prop} (g : Nat) (s : ByteArray) (p : Nat) (es : List En) (out : List Dt) (d : Dt) (k : Int) (t : ByteArray) (mo : Option Addr) (mn mc : Nat) (lo : Option Addr) (ln lc : Nat) (pl : Int) (P0 : Nat) (w : World)
  (h : RdAt D w.heap.size w g s p es out) (hgN : g < w.heap.size) (hd : Dt.At D w d #[.int .i64 k, .string t, .slice mo mn mc, .slice lo ln lc, .int .i64 pl]) (hB : Bnd es out P0) (hP : P0 ≤ 9000) :
  Calls Try.prog 84 #[.pointer (some ⟨g, 0, none⟩), .agg #[.int .i64 k, .string t, .slice mo mn mc, .slice lo ln lc, .int .i64 pl]] w (RetPut g s p (putS d es out) w) := by
 obtain ⟨R, hRR⟩ : ∃ R, R = putS d es out := ⟨_, rfl⟩
 rw [← hRR]
 have HST0 : Hid (PInv w.heap.size g s p R P0 w (w.alloc (.cells #[.int .i64 k, .string t, .slice mo mn mc, .slice lo ln lc, .int .i64 pl] 29))) := ⟨D, es, out, d, k, t, mo, mn, mc, lo, ln, lc, pl, PI.start h hgN hd, hRR.symm, hB⟩
 clear h hd hB hRR
 go_enter Try.func84, Try.ntmps84
 go_wp2_with fail
 go_loopw [] (fun wr => PInv w.heap.size g s p R P0 w wr) (fun wr => oln g wr)
 case atStart => exact HST0.out
 case round =>
  clear HST0
  obtain ⟨D1, es1, out1, d1, k1, t1, mo1, mn1, mc1, lo1, ln1, lc1, pl1, hPI, hEQ, hBd⟩ := hrel
  have HPI := Lib.hid hPI
  have HEQ := Lib.hid hEQ
  have HOL : Hid (out1.length ≤ 9000) := by have := hBd.2.1; show _ ≤ _; omega
  have HBD := Lib.hid hBd
  have z1 : (#[.int .i64 k1, .string t1, .slice mo1 mn1 mc1, .slice lo1 ln1 lc1, .int .i64 pl1] : Array Value).all (·.oneCell') = true := by simp [Value.oneCell']
  obtain ⟨ao2, c2, bo2, dd2, hform⟩ := hPI.rd.form
  have hc2 := hform.cells.2.2.1
  clear hPI hEQ hBd hform
  cases es1 with
  | nil =>
   go_upto_region 7 with fail
   clear hc2
   have HEQ : Hid ((([] : List En), out1 ++ [d1]) = R) := HEQ.out
   obtain ⟨WD, hWD⟩ : ∃ x, x = wr.drew := ⟨_, rfl⟩
   have hPD := HPI.out.below hgN (Below.refl wr.heap.size wr).drew
   rw [← hWD] at hPD
   obtain ⟨ao, c, xs, c1, c2, x2, hown, hB8, HNX⟩ := outp_step hPD.rd hgN hPD.size hPD.dat hPD.box hPD.low rfl
   have hx0 : Boxed w.heap.size #[.int .i64 k1, .string t1, .slice mo1 mn1 mc1, .slice lo1 ln1 lc1, .int .i64 pl1] WD := hPD.box
   clear hPD
   refine wp_region_noPanic ?_
   refine wp_region_held_drew (S := Boxed w.heap.size #[.int .i64 k1, .string t1, .slice mo1 mn1 mc1, .slice lo1 ln1 lc1, .int .i64 pl1]) (by kernel_rfl) (by rw [← hWD]; exact hx0) (fun hHeld => ?_)
   rw [← hWD] at hHeld ⊢
   have HC1 := Lib.hid c1
   have HC2 : Hid ((WD.alloc (.cells #[.int .i64 0, .string ⟨#[]⟩, .slice none 0 0, .slice none 0 0, .int .i64 0] 29)).cell? ⟨g, 3, none⟩ = some (.slice ao out1.length c)) := c2
   have HX2 := Lib.hid x2
   have HO := Lib.hid hown
   have HN := Lib.hid HNX
   obtain ⟨on, hon⟩ : ∃ on, on = out1.length := ⟨_, rfl⟩
   rw [← hon] at HC1 HC2 HO HN
   have hon9 : on ≤ 9000 := by rw [hon]; exact HOL.out
   have HON := Lib.hid hon
   clear c1 c2 x2 hown HNX hWD hx0 hon HPI
   refine qts [0, 1, 2] hHeld ?_
   iterate 3 (refine qtc (v := ?_) rfl rfl (fun w' hw' => ?_) ?_; rotate_left; (focus (go_simp; try with_reducible rfl)); simp only [zt,zs,zz,Act.put,zi,zy,zx])
   refine qtn ?_
   simp only [zt,zs,zz,Act.put,zi,zy,zx,qzl,qzn,qza,Nat.reduceAdd,Nat.reduceSub]
   refine wpAnyH_take (i := 4) rfl (by kernel_rfl) (by kernel_rfl) (by kernel_rfl) (fun _ _ _ h => h) (yieldsIf_load_mid (by rfl) _ _ rfl w.heap.size 0 rfl [.int .i64 k1, .string t1, .slice mo1 mn1 mc1, .slice lo1 ln1 lc1, .int .i64 pl1] _ (fun w' hw' => box_range hw') Try.underlying29 rfl info40) hHeld ?_
   simp only [zt,zs,zz,Act.put,zi,zy,zx]
   refine wpAnyH_ready (rs := [3, 6]) (by kernel_rfl) (by simp) ?_
   refine (AllReadyH.cons rfl (fun K hK => ?_) (AllReadyH.cons rfl (fun K hK => ?_) AllReadyH.nil))
   ·skip
    have cl := HC1.out
    go_simp
    refine hK.out _ _ hHeld (fun hHeld => ?_)
    clear cl
    clear hK K
    try simp only [zt,zs,zz,Act.put,zi,zy,zx]
    refine qtk (i := 5) (v := ?v3) rfl rfl (fun w' hw' => ?h3) hHeld ?r3
    case h3 => go_simp; try with_reducible rfl
    simp only [zt,zs,zz,Act.put,zi,zy,zx]
    refine wpAnyH_ready (rs := [6]) (by kernel_rfl) (by simp) ?_
    refine (AllReadyH.cons rfl (fun K hK => ?_) AllReadyH.nil)
    go_simp
    refine hK.out _ _ HX2.out (fun hHeld => ?_)
    clear hK K
    try simp only [zt,zs,zz,Act.put,zi,zy,zx]
    refine wpAnyH_ready (rs := [7]) (by kernel_rfl) (by simp) ?_
    refine (AllReadyH.cons rfl (fun K hK => ?_) AllReadyH.nil)
    rw [if_pos (by rfl)]
    refine wp_app (Operand.tmp 68) (Operand.tmp 71) rfl (g + 1) (.slice ao on c) on xs rfl HO.out WD.heap.size 1 rfl Z5.toList rfl (fun i u hu => ?_) (by simp [Value.oneCell', Z5]) (by omega) hB8 ?_
    ·have q : (WD.alloc (.cells Z5 29)).cell? ⟨WD.heap.size, i, none⟩ = some u := by rw [Lib.cell_of_heap (alloc_at WD (.cells Z5 29))]; simpa using hu
     exact q
    intro v' w9 hown9 hg9 hv9
    obtain ⟨g', c', rfl, hc', x9, HA, HB⟩ := HN.out v' w9 hown9 hg9 hv9
    clear hown9 hg9 hv9
    refine hK.out _ _ x9 (fun hHeld => ?_)
    clear x9
    clear hK K
    try simp only [zt,zs,zz,Act.put,zi,zy,zx]
    refine qts [8, 10, 11] hHeld ?_
    (refine qtc (v := Value.pointer (some ⟨g', on * 5, none⟩)) rfl rfl (fun w' hw' => ?_) ?_; (focus (go_simp; intro hq; omega)); simp only [zt,zs,zz,Act.put,zi,zy,zx])
    iterate 2 (refine qtc (v := ?_) rfl rfl (fun w' hw' => ?_) ?_; rotate_left; (focus (go_simp; try with_reducible rfl)); simp only [zt,zs,zz,Act.put,zi,zy,zx])
    refine qtn ?_
    simp only [zt,zs,zz,Act.put,zi,zy,zx,qzl,qzn,qza,Nat.reduceAdd,Nat.reduceSub]
    refine wpAnyH_ready (rs := [9, 12]) (by kernel_rfl) (by simp) ?_
    refine (AllReadyH.cons rfl (fun K hK => ?_) (AllReadyH.cons rfl (fun K hK => ?_) AllReadyH.nil))
    ·skip
     obtain ⟨th, xS, cc, cf, xT, hd⟩ := HA
     have HXT := Lib.hid xT
     have HD := Lib.hid hd
     rw [if_pos (by rfl)]
     refine wp_store_mid 29 _ _ rfl g' (on * 5) #[.int .i64 k1, .string t1, .slice mo1 mn1 mc1, .slice lo1 ln1 lc1, .int .i64 pl1] rfl rfl th info40 z1 ?_
     refine hK.out _ _ xS (fun hHeld => ?_)
     clear xS th xT hd HB
     clear hK K
     try simp only [zt,zs,zz,Act.put,zi,zy,zx]
     refine wpAnyH_ready (rs := [12]) (by kernel_rfl) (by simp) ?_
     refine (AllReadyH.cons rfl (fun K hK => ?_) AllReadyH.nil)
     go_simp
     refine hK.out _ _ HXT.out (fun hHeld => ?_)
     clear cc cf
     clear hK K
     try simp only [zt,zs,zz,Act.put,zi,zy,zx]
     refine wpAnyH_done (by kernel_rfl) ?_ _
     refine NoPanic.normal ?_
     go_wp2_with fail
     refine bodyPost_ret (results_none rfl _ _ _) rfl ?_
     have q := HD.out
     rw [HEQ.out] at q
     exact q
    ·skip
     obtain ⟨cc, cf, xS, th, xT, hd⟩ := HB
     have HXT := Lib.hid xT
     have HD := Lib.hid hd
     have HTH := Lib.hid th
     go_simp
     refine hK.out _ _ xS (fun hHeld => ?_)
     clear xS th xT hd HA cc cf
     clear hK K
     try simp only [zt,zs,zz,Act.put,zi,zy,zx]
     refine wpAnyH_ready (rs := [9]) (by kernel_rfl) (by simp) ?_
     refine (AllReadyH.cons rfl (fun K hK => ?_) AllReadyH.nil)
     rw [if_pos (by rfl)]
     refine wp_store_mid 29 _ _ rfl g' (on * 5) #[.int .i64 k1, .string t1, .slice mo1 mn1 mc1, .slice lo1 ln1 lc1, .int .i64 pl1] rfl rfl HTH.out info40 z1 ?_
     refine hK.out _ _ HXT.out (fun hHeld => ?_)
     clear hK K
     try simp only [zt,zs,zz,Act.put,zi,zy,zx]
     refine wpAnyH_done (by kernel_rfl) ?_ _
     refine NoPanic.normal ?_
     go_wp2_with fail
     refine bodyPost_ret (results_none rfl _ _ _) rfl ?_
     have q := HD.out
     rw [HEQ.out] at q
     exact q
   ·skip
    go_simp
    refine hK.out _ _ HX2.out (fun hHeld => ?_)
    clear hK K
    try simp only [zt,zs,zz,Act.put,zi,zy,zx]
    refine wpAnyH_ready (rs := [3]) (by kernel_rfl) (by simp) ?_
    refine (AllReadyH.cons rfl (fun K hK => ?_) AllReadyH.nil)
    have cl := HC2.out
    go_simp
    refine hK.out _ _ hHeld (fun hHeld => ?_)
    clear cl
    clear hK K
    try simp only [zt,zs,zz,Act.put,zi,zy,zx]
    refine qtk (i := 5) (v := ?v7) rfl rfl (fun w' hw' => ?h7) hHeld ?r7
    case h7 => go_simp; try with_reducible rfl
    simp only [zt,zs,zz,Act.put,zi,zy,zx]
    refine wpAnyH_ready (rs := [7]) (by kernel_rfl) (by simp) ?_
    refine (AllReadyH.cons rfl (fun K hK => ?_) AllReadyH.nil)
    rw [if_pos (by rfl)]
    refine wp_app (Operand.tmp 68) (Operand.tmp 71) rfl (g + 1) (.slice ao on c) on xs rfl HO.out WD.heap.size 1 rfl Z5.toList rfl (fun i u hu => ?_) (by simp [Value.oneCell', Z5]) (by omega) hB8 ?_
    ·have q : (WD.alloc (.cells Z5 29)).cell? ⟨WD.heap.size, i, none⟩ = some u := by rw [Lib.cell_of_heap (alloc_at WD (.cells Z5 29))]; simpa using hu
     exact q
    intro v' w9 hown9 hg9 hv9
    obtain ⟨g', c', rfl, hc', x9, HA, HB⟩ := HN.out v' w9 hown9 hg9 hv9
    clear hown9 hg9 hv9
    refine hK.out _ _ x9 (fun hHeld => ?_)
    clear x9
    clear hK K
    try simp only [zt,zs,zz,Act.put,zi,zy,zx]
    refine qts [8, 10, 11] hHeld ?_
    (refine qtc (v := Value.pointer (some ⟨g', on * 5, none⟩)) rfl rfl (fun w' hw' => ?_) ?_; (focus (go_simp; intro hq; omega)); simp only [zt,zs,zz,Act.put,zi,zy,zx])
    iterate 2 (refine qtc (v := ?_) rfl rfl (fun w' hw' => ?_) ?_; rotate_left; (focus (go_simp; try with_reducible rfl)); simp only [zt,zs,zz,Act.put,zi,zy,zx])
    refine qtn ?_
    simp only [zt,zs,zz,Act.put,zi,zy,zx,qzl,qzn,qza,Nat.reduceAdd,Nat.reduceSub]
    refine wpAnyH_ready (rs := [9, 12]) (by kernel_rfl) (by simp) ?_
    refine (AllReadyH.cons rfl (fun K hK => ?_) (AllReadyH.cons rfl (fun K hK => ?_) AllReadyH.nil))
    ·skip
     obtain ⟨th, xS, cc, cf, xT, hd⟩ := HA
     have HXT := Lib.hid xT
     have HD := Lib.hid hd
     rw [if_pos (by rfl)]
     refine wp_store_mid 29 _ _ rfl g' (on * 5) #[.int .i64 k1, .string t1, .slice mo1 mn1 mc1, .slice lo1 ln1 lc1, .int .i64 pl1] rfl rfl th info40 z1 ?_
     refine hK.out _ _ xS (fun hHeld => ?_)
     clear xS th xT hd HB
     clear hK K
     try simp only [zt,zs,zz,Act.put,zi,zy,zx]
     refine wpAnyH_ready (rs := [12]) (by kernel_rfl) (by simp) ?_
     refine (AllReadyH.cons rfl (fun K hK => ?_) AllReadyH.nil)
     go_simp
     refine hK.out _ _ HXT.out (fun hHeld => ?_)
     clear cc cf
     clear hK K
     try simp only [zt,zs,zz,Act.put,zi,zy,zx]
     refine wpAnyH_done (by kernel_rfl) ?_ _
     refine NoPanic.normal ?_
     go_wp2_with fail
     refine bodyPost_ret (results_none rfl _ _ _) rfl ?_
     have q := HD.out
     rw [HEQ.out] at q
     exact q
    ·skip
     obtain ⟨cc, cf, xS, th, xT, hd⟩ := HB
     have HXT := Lib.hid xT
     have HD := Lib.hid hd
     have HTH := Lib.hid th
     go_simp
     refine hK.out _ _ xS (fun hHeld => ?_)
     clear xS th xT hd HA cc cf
     clear hK K
     try simp only [zt,zs,zz,Act.put,zi,zy,zx]
     refine wpAnyH_ready (rs := [9]) (by kernel_rfl) (by simp) ?_
     refine (AllReadyH.cons rfl (fun K hK => ?_) AllReadyH.nil)
     rw [if_pos (by rfl)]
     refine wp_store_mid 29 _ _ rfl g' (on * 5) #[.int .i64 k1, .string t1, .slice mo1 mn1 mc1, .slice lo1 ln1 lc1, .int .i64 pl1] rfl rfl HTH.out info40 z1 ?_
     refine hK.out _ _ HXT.out (fun hHeld => ?_)
     clear hK K
     try simp only [zt,zs,zz,Act.put,zi,zy,zx]
     refine wpAnyH_done (by kernel_rfl) ?_ _
     refine NoPanic.normal ?_
     go_wp2_with fail
     refine bodyPost_ret (results_none rfl _ _ _) rfl ?_
     have q := HD.out
     rw [HEQ.out] at q
     exact q
  | cons e r =>
   obtain ⟨og, c, lo2, ln2, lc2, b2, hnc, hcm, hogl, ⟨b3, b4, b5⟩, HX⟩ := HPI.out.top hgN rfl
   rw [hc2] at b2
   injection b2 with b2
   injection b2 with b2 b2b b2c
   subst b2 b2c
   obtain ⟨rn, hrn⟩ : ∃ rn, rn = r.length := ⟨_, rfl⟩
   obtain ⟨eq9, heq9⟩ : ∃ b, b = e.q := ⟨_, rfl⟩
   obtain ⟨ep, hep⟩ : ∃ b, b = e.pl := ⟨_, rfl⟩
   simp only [List.length_cons, ← hrn, ← heq9, ← hep] at hc2 b3 b4 b5 HX hnc
   have hrn9 : rn ≤ 100 := by have := HBD.out.2.2; simp only [List.length_cons] at this; omega
   have HX := Lib.hid HX
   have HLN : Hid (oln g wr = rn + 1) := by show _ = _; unfold oln; rw [hc2]
   have HRN := Lib.hid hrn
   have HEP := Lib.hid hep
   have HEQ9 := Lib.hid heq9
   have hgl : g < wr.heap.size := by have := HPI.out.size; omega
   have hNl : w.heap.size < wr.heap.size := by have := HPI.out.size; omega
   clear hrn heq9 hep b2b
   go_upto_region 2 with fail
   have HC : Hid (∀ w', Below wr.heap.size wr w' → w'.cell? ⟨g, 2, none⟩ = some (.slice (some ⟨og, 0, none⟩) (rn + 1) c2) ∧ w'.cell? ⟨og, rn * 3, none⟩ = some (.bool eq9) ∧ w'.cell? ⟨og, rn * 3 + 1, none⟩ = some (.int .i64 ep) ∧ w'.cell? ⟨og, rn * 3 + 2, none⟩ = some (.slice lo2 ln2 lc2)) := fun w' hw' => ⟨(hw'.cell hgl).trans hc2, (hw'.cell hogl).trans b3, (hw'.cell hogl).trans b4, (hw'.cell hogl).trans b5⟩
   have HS0 : Hid (Below wr.heap.size wr wr.drew) := (Below.refl _ _).drew
   have HSZ : Hid (wr.drew.heap.size = wr.heap.size) := rfl
   refine wp_region_noPanic ?_
   refine wp_region_held_drew (S := Below wr.heap.size wr) (by kernel_rfl) HS0.out (fun hHeld => ?_)
   clear b3 b4 b5 hc2
   generalize wr.drew = XD at HS0 HSZ hHeld ⊢
   refine qts [0, 1, 2, 3, 4, 5, 6, 7, 8, 9, 10, 11] hHeld ?_
   iterate 9 (refine qtc (v := ?_) rfl rfl (fun w' hw' => ?_) ?_; rotate_left; (focus ((obtain ⟨q1, q2, q3, q4⟩ := HC.out w' hw'; go_simp); try with_reducible rfl)); simp only [zt,zs,zz,Act.put,zi,zy,zx])
   (refine qtc (v := Value.int .i64 (rn : Int)) rfl rfl (fun w' hw' => ?_) ?_; (focus (go_simp; rw [IntKind.wrap_i64]; omega)); simp only [zt,zs,zz,Act.put,zi,zy,zx])
   (refine qtc (v := Value.pointer (some ⟨og, rn * 3, none⟩)) rfl rfl (fun w' hw' => ?_) ?_; (focus (go_simp; intro hq; omega)); simp only [zt,zs,zz,Act.put,zi,zy,zx])
   (refine qtc (v := ?_) rfl rfl (fun w' hw' => ?_) ?_; rotate_left; (focus ((obtain ⟨q1, q2, q3, q4⟩ := HC.out w' hw'; go_simp); try with_reducible rfl)); simp only [zt,zs,zz,Act.put,zi,zy,zx])
   refine qtn ?_
   simp only [zt,zs,zz,Act.put,zi,zy,zx,qzl,qzn,qza,Nat.reduceAdd,Nat.reduceSub]
   refine wpAnyH_ready (rs := [12]) (by kernel_rfl) (by simp) ?_
   refine (AllReadyH.cons rfl (fun K hK => ?_) AllReadyH.nil)
   go_simp
   refine hK.out _ _ (hHeld.alloc (by rw [HSZ.out]; exact Nat.le_refl _) _) (fun hHeld => ?_)
   clear hK K
   try simp only [zt,zs,zz,Act.put,zi,zy,zx]
   refine wpAnyH_ready (rs := [13]) (by kernel_rfl) (by simp) ?_
   refine (AllReadyH.cons rfl (fun K hK => ?_) AllReadyH.nil)
   go_simp
   refine hK.out _ _ (HS0.out.alloc (by rw [HSZ.out]; exact Nat.le_refl _) _) (fun hHeld => ?_)
   clear hK K
   try simp only [zt,zs,zz,Act.put,zi,zy,zx]
   refine wpAnyH_done (by kernel_rfl) ?_ _
   refine NoPanic.normal ?_
   clear hHeld
   rw [HSZ.out]
   have hbx := HS0.out.alloc (by rw [HSZ.out]; exact Nat.le_refl _) (.cells #[.bool eq9, .int .i64 ep, .slice lo2 ln2 lc2] 137)
   have hnx := alloc_at XD (.cells #[.bool eq9, .int .i64 ep, .slice lo2 ln2 lc2] 137)
   have hsx : (XD.alloc (.cells #[.bool eq9, .int .i64 ep, .slice lo2 ln2 lc2] 137)).heap.size = wr.heap.size + 1 := by simp [HSZ.out]
   rw [HSZ.out] at hnx
   generalize XD.alloc (.cells #[.bool eq9, .int .i64 ep, .slice lo2 ln2 lc2] 137) = X at hbx hnx hsx ⊢
   have k0 : X.cell? ⟨wr.heap.size, 0, none⟩ = some (.bool eq9) := by rw [Lib.cell_of_heap hnx]; rfl
   have k1 : X.cell? ⟨wr.heap.size, 1, none⟩ = some (.int .i64 ep) := by rw [Lib.cell_of_heap hnx]; rfl
   have k2 : X.cell? ⟨wr.heap.size, 2, none⟩ = some (.slice lo2 ln2 lc2) := by rw [Lib.cell_of_heap hnx]; rfl
   have hxsz : X.drew.heap.size = wr.heap.size + 1 := hsx
   have hxlt : wr.heap.size < X.drew.heap.size := by omega
   obtain ⟨⟨f1, f2, f3⟩, HT, HF⟩ := HX.out X.drew hbx.drew hxlt
   have HXS := Lib.hid hxsz
   have HF1 := Lib.hid f1
   have HF2 := Lib.hid f2
   have HF3 := Lib.hid f3
   have HK1 := Lib.hid k1
   have HK2 := Lib.hid k2
   have HBX := Lib.hid hbx
   clear hbx hnx hsx hxsz hxlt f1 f2 f3 k1 k2 HC HS0 HSZ HX
   cases eq9 with
   | false =>
    obtain ⟨hln, xs, hown, hB8, HNX⟩ := HF rfl
    have HO := Lib.hid hown
    have HN := Lib.hid HNX
    have hln9 : ln2 ≤ 9000 := by have := HBD.out.1 e (by simp); omega
    clear HF HT hown HNX hln
    go_upto_region 4 with fail
    have HA := Lib.hid (agr_facts (g := g) (b := wr.heap.size) (N := w.heap.size) (X := X.drew) HF1.out HK2.out HF3.out)
    have HS1 : Hid (∀ x, x = g ∨ x = wr.heap.size ∨ x = w.heap.size → X.drew.heap[x]? = X.drew.heap[x]?) := fun _ _ => rfl
    refine wp_region_noPanic ?_
    refine wp_region_held_drew (S := fun w' => ∀ x, x = g ∨ x = wr.heap.size ∨ x = w.heap.size → w'.heap[x]? = X.drew.heap[x]?) (by kernel_rfl) HS1.out (fun hHeld => ?_)
    generalize X.drew = XE at HA HF1 HF2 HF3 HXS HO HN hB8 hHeld ⊢
    refine qts [0, 1, 2, 3, 4, 5, 6, 7, 8, 9, 10, 11] hHeld ?_
    iterate 9 (refine qtc (v := ?_) rfl rfl (fun w' hw' => ?_) ?_; rotate_left; (focus ((obtain ⟨⟨q1, q2⟩, _⟩ := HA.out w' hw'; go_simp); try with_reducible rfl)); simp only [zt,zs,zz,Act.put,zi,zy,zx])
    (refine qtc (v := Value.int .i64 (rn : Int)) rfl rfl (fun w' hw' => ?_) ?_; (focus (go_simp; rw [IntKind.wrap_i64]; omega)); simp only [zt,zs,zz,Act.put,zi,zy,zx])
    iterate 2 (refine qtc (v := ?_) rfl rfl (fun w' hw' => ?_) ?_; rotate_left; (focus ((obtain ⟨⟨q1, q2⟩, _⟩ := HA.out w' hw'; go_simp); try with_reducible rfl)); simp only [zt,zs,zz,Act.put,zi,zy,zx])
    refine qtn ?_
    simp only [zt,zs,zz,Act.put,zi,zy,zx,qzl,qzn,qza,Nat.reduceAdd,Nat.reduceSub]
    refine wpAnyH_take (i := 12) rfl (by kernel_rfl) (by kernel_rfl) (by kernel_rfl) (fun _ _ _ h => h) (yieldsIf_load_mid (by rfl) _ _ rfl w.heap.size 0 rfl [.int .i64 k1, .string t1, .slice mo1 mn1 mc1, .slice lo1 ln1 lc1, .int .i64 pl1] _ (fun w' hw' => (HA.out w' hw').2) Try.underlying29 rfl info40) hHeld ?_
    simp only [zt,zs,zz,Act.put,zi,zy,zx]
    refine wpAnyH_ready (rs := [13]) (by kernel_rfl) (by simp) ?_
    refine (AllReadyH.cons rfl (fun K hK => ?_) AllReadyH.nil)
    go_simp
    refine hK.out _ _ (fun x hx => (Lib.alloc_old XE _ x (by have := HXS.out; rcases hx with rfl | rfl | rfl <;> omega)).trans (hHeld x hx)) (fun hHeld => ?_)
    clear hK K
    try simp only [zt,zs,zz,Act.put,zi,zy,zx]
    refine wpAnyH_ready (rs := [14]) (by kernel_rfl) (by simp) ?_
    refine (AllReadyH.cons rfl (fun K hK => ?_) AllReadyH.nil)
    rw [if_pos (by rfl)]
    refine wp_app (Operand.tmp 37) (Operand.tmp 39) rfl (g + 1) (.slice lo2 ln2 lc2) ln2 xs rfl HO.out XE.heap.size 1 rfl [.int .i64 k1, .string t1, .slice mo1 mn1 mc1, .slice lo1 ln1 lc1, .int .i64 pl1] rfl (fun i u hu => ?_) (by simp [Value.oneCell']) (by omega) hB8 ?_
    ·have q : (XE.alloc (.cells #[.int .i64 k1, .string t1, .slice mo1 mn1 mc1, .slice lo1 ln1 lc1, .int .i64 pl1] 29)).cell? ⟨XE.heap.size, i, none⟩ = some u := by rw [Lib.cell_of_heap (alloc_at XE (.cells #[.int .i64 k1, .string t1, .slice mo1 mn1 mc1, .slice lo1 ln1 lc1, .int .i64 pl1] 29))]; simpa using hu
     exact q
    intro v' w9 hown9 hg9 hv9
    obtain ⟨o3, cc, cf, o4, hret⟩ := HN.out v' w9 hown9 hg9 hv9
    obtain ⟨vo, vc, rfl⟩ := row_form hown9 (by decide)
    have HO4 := Lib.hid o4
    have HRT := Lib.hid hret
    clear hown9 hg9 hv9 o4 hret
    refine hK.out _ _ o3 (fun hHeld => ?_)
    clear o3
    clear hK K
    try simp only [zt,zs,zz,Act.put,zi,zy,zx]
    refine qtk (i := 15) (v := Value.pointer (some ⟨og, rn * 3, none⟩)) rfl rfl (fun w' hw' => ?_) hHeld ?_
    ·go_simp; intro hq; omega
    simp only [zt,zs,zz,Act.put,zi,zy,zx]
    refine qtk (i := 16) (v := ?v36) rfl rfl (fun w' hw' => ?h36) hHeld ?r36
    case h36 => go_simp; try with_reducible rfl
    simp only [zt,zs,zz,Act.put,zi,zy,zx]
    refine wpAnyH_ready (rs := [17]) (by kernel_rfl) (by simp) ?_
    refine (AllReadyH.cons rfl (fun K hK => ?_) AllReadyH.nil)
    go_simp
    refine hK.out _ _ HO4.out (fun hHeld => ?_)
    clear hK K
    try simp only [zt,zs,zz,Act.put,zi,zy,zx]
    refine wpAnyH_done (by kernel_rfl) ?_ _
    refine NoPanic.normal ?_
    clear hHeld
    go_wp2_with fail
    refine bodyPost_ret (results_none rfl _ _ _) rfl ?_
    have q := HRT.out
    have q2 : (e.add d1 :: r, out1) = R := by rw [← HEQ.out]; unfold putS; rw [if_neg (by rw [← HEQ9.out]; decide)]
    rw [q2] at q
    exact q
   | true =>
    obtain ⟨_, hbox5, D2, hPI2⟩ := HT rfl
    have HB5 := Lib.hid hbox5
    have HP2 := Lib.hid hPI2
    clear HF HT hbox5 hPI2
    go_upto_region 5 with fail
    refine wp_region_noPanic ?_
    refine wp_region_held_drew (S := fun _ => True) (by kernel_rfl) trivial (fun hHeld => ?_)
    have HK1 : Hid (X.drew.cell? ⟨wr.heap.size, 1, none⟩ = some (.int .i64 ep)) := HK1.out
    generalize X.drew = XE at HF1 HF2 HF3 HXS HB5 HP2 HK1 hHeld ⊢
    refine qts [0, 1, 2, 3, 5, 6, 7] hHeld ?_
    iterate 7 (refine qtc (v := ?_) rfl rfl (fun w' hw' => ?_) ?_; rotate_left; (focus (go_simp; try with_reducible rfl)); simp only [zt,zs,zz,Act.put,zi,zy,zx])
    refine qtn ?_
    simp only [zt,zs,zz,Act.put,zi,zy,zx,qzl,qzn,qza,Nat.reduceAdd,Nat.reduceSub]
    refine wpAnyH_ready (rs := [4, 8]) (by kernel_rfl) (by simp) ?_
    refine (AllReadyH.cons rfl (fun K hK => ?_) (AllReadyH.cons rfl (fun K hK => ?_) AllReadyH.nil))
    ·skip
     have cl := HF1.out
     go_simp
     refine hK.out _ _ trivial (fun hHeld => ?_)
     clear cl
     clear hK K
     try simp only [zt,zs,zz,Act.put,zi,zy,zx]
     refine wpAnyH_ready (rs := [8]) (by kernel_rfl) (by simp) ?_
     refine (AllReadyH.cons rfl (fun K hK => ?_) AllReadyH.nil)
     have cl := HF1.out
     go_simp
     refine hK.out _ _ trivial (fun hHeld => ?_)
     clear cl
     clear hK K
     try simp only [zt,zs,zz,Act.put,zi,zy,zx]
     refine qts [9, 10, 11, 12, 13] hHeld ?_
     (refine qtc (v := ?_) rfl rfl (fun w' hw' => ?_) ?_; rotate_left; (focus (go_simp; try with_reducible rfl)); simp only [zt,zs,zz,Act.put,zi,zy,zx])
     (refine qtc (v := Value.int .i64 (rn : Int)) rfl rfl (fun w' hw' => ?_) ?_; (focus (go_simp; rw [IntKind.wrap_i64]; omega)); simp only [zt,zs,zz,Act.put,zi,zy,zx])
     (refine qtc (v := Value.slice (some ⟨og, 0, none⟩) rn c2) rfl rfl (fun w' hw' => ?_) ?_; (focus (go_simp; intro hq; omega)); simp only [zt,zs,zz,Act.put,zi,zy,zx])
     iterate 2 (refine qtc (v := ?_) rfl rfl (fun w' hw' => ?_) ?_; rotate_left; (focus (go_simp; try with_reducible rfl)); simp only [zt,zs,zz,Act.put,zi,zy,zx])
     refine qtn ?_
     simp only [zt,zs,zz,Act.put,zi,zy,zx,qzl,qzn,qza,Nat.reduceAdd,Nat.reduceSub]
     refine wpAnyH_ready (rs := [14]) (by kernel_rfl) (by simp) ?_
     refine (AllReadyH.cons rfl (fun K hK => ?_) AllReadyH.nil)
     have cl := HF1.out
     have cf := HF2.out
     go_simp
     refine hK.out _ _ trivial (fun hHeld => ?_)
     clear cl cf
     clear hK K
     try simp only [zt,zs,zz,Act.put,zi,zy,zx]
     refine wpAnyH_done (by kernel_rfl) ?_ _
     refine NoPanic.normal ?_
     clear hHeld
     have hk1 : (XE.setCell ⟨g, 2, none⟩ (.slice (some ⟨og, 0, none⟩) rn c2)).cell? ⟨wr.heap.size, 1, none⟩ = some (.int .i64 ep) := by
      rw [World.cell?_setCell_far _ _ _ _ (by show g ≠ wr.heap.size; omega)]; exact HK1.out
     have hb5 := HB5.out
     have hs1 : (XE.setCell ⟨g, 2, none⟩ (.slice (some ⟨og, 0, none⟩) rn c2)).heap.size = XE.heap.size := by simp [World.setCell]
     have hp2 := HP2.out
     rw [← hs1] at hp2
     have hN1 : w.heap.size < (XE.setCell ⟨g, 2, none⟩ (.slice (some ⟨og, 0, none⟩) rn c2)).heap.size := by rw [hs1]; have := HXS.out; omega
     clear HP2 HB5 HK1 HF1 HF2 HF3 hs1
     generalize XE.setCell ⟨g, 2, none⟩ (.slice (some ⟨og, 0, none⟩) rn c2) = X1 at hk1 hb5 hp2 hN1 ⊢
     have hx2 : (X1.alloc (.cells #[.int .i64 3, .string ⟨#[113, 117, 111, 116, 101]⟩, .slice none 0 0, .slice none 0 0, .int .i64 ep, .int .i64 k1, .string t1, .slice mo1 mn1 mc1, .slice lo1 ln1 lc1, .int .i64 pl1] 29)).heap[w.heap.size]? = some (.cells #[.int .i64 k1, .string t1, .slice mo1 mn1 mc1, .slice lo1 ln1 lc1, .int .i64 pl1] 29 (0, 0)) := by rw [Lib.alloc_old X1 _ _ hN1]; exact hb5
     have HX2 := Lib.hid hx2
     have HP2 := Lib.hid hp2
     clear hx2 hp2 hN1
     have z2 : (#[.int .i64 4, .string ⟨#[]⟩, .slice none 0 0, .slice (some ⟨X1.heap.size, 0, none⟩) 2 2, .int .i64 ep] : Array Value).all (·.oneCell') = true := by simp [Value.oneCell']
     go_wp2_with (first | refine wpList_load_row rfl 29 _ rfl w.heap.size rfl 29 #[.int .i64 k1, .string t1, .slice mo1 mn1 mc1, .slice lo1 ln1 lc1, .int .i64 pl1] (0, 0) _ hb5 Try.underlying29 rfl info40 ?_ | refine wpList_store_row rfl 29 _ _ rfl w.heap.size #[.int .i64 4, .string ⟨#[]⟩, .slice none 0 0, .slice (some ⟨X1.heap.size, 0, none⟩) 2 2, .int .i64 ep] rfl rfl 29 #[.int .i64 k1, .string t1, .slice mo1 mn1 mc1, .slice lo1 ln1 lc1, .int .i64 pl1] HX2.out info40 rfl z2 ?_)
     go_roundw
     case rel =>
      refine ⟨D2, r, out1, (e.add d1).dt, 4, ⟨#[]⟩, none, 0, 0, some ⟨X1.heap.size, 0, none⟩, 2, 2, ep, HP2.out, ?_, ?_⟩
      ·rw [← HEQ.out]
       conv => rhs; unfold putS
       rw [if_pos (by rw [← HEQ9.out])]
      ·exact ⟨fun x hx => HBD.out.1 x (List.mem_cons_of_mem _ hx), HBD.out.2.1, by have := HBD.out.2.2; simp only [List.length_cons] at this; omega⟩
     case measure =>
      obtain ⟨ao7, c7, bo7, dd7, hf7⟩ := HP2.out.rd.form
      have h7 := hf7.cells.2.2.1
      have h8 := HLN.out
      have h9 := HRN.out
      unfold oln at h8 ⊢
      rw [h7]
      simp only []
      omega
    ·skip
     have cl := HF1.out
     go_simp
     refine hK.out _ _ trivial (fun hHeld => ?_)
     clear cl
     clear hK K
     try simp only [zt,zs,zz,Act.put,zi,zy,zx]
     refine qtk (i := 9) (v := ?v49) rfl rfl (fun w' hw' => ?h49) hHeld ?r49
     case h49 => go_simp; try with_reducible rfl
     simp only [zt,zs,zz,Act.put,zi,zy,zx]
     refine qtk (i := 10) (v := Value.int .i64 (rn : Int)) rfl rfl (fun w' hw' => ?_) hHeld ?_
     ·go_simp; rw [IntKind.wrap_i64]; omega
     simp only [zt,zs,zz,Act.put,zi,zy,zx]
     refine wpAnyH_ready (rs := [4]) (by kernel_rfl) (by simp) ?_
     refine (AllReadyH.cons rfl (fun K hK => ?_) AllReadyH.nil)
     have cl := HF1.out
     go_simp
     refine hK.out _ _ trivial (fun hHeld => ?_)
     clear cl
     clear hK K
     try simp only [zt,zs,zz,Act.put,zi,zy,zx]
     refine qts [11, 12, 13] hHeld ?_
     (refine qtc (v := Value.slice (some ⟨og, 0, none⟩) rn c2) rfl rfl (fun w' hw' => ?_) ?_; (focus (go_simp; intro hq; omega)); simp only [zt,zs,zz,Act.put,zi,zy,zx])
     iterate 2 (refine qtc (v := ?_) rfl rfl (fun w' hw' => ?_) ?_; rotate_left; (focus (go_simp; try with_reducible rfl)); simp only [zt,zs,zz,Act.put,zi,zy,zx])
     refine qtn ?_
     simp only [zt,zs,zz,Act.put,zi,zy,zx,qzl,qzn,qza,Nat.reduceAdd,Nat.reduceSub]
     refine wpAnyH_ready (rs := [14]) (by kernel_rfl) (by simp) ?_
     refine (AllReadyH.cons rfl (fun K hK => ?_) AllReadyH.nil)
     have cl := HF1.out
     have cf := HF2.out
     go_simp
     refine hK.out _ _ trivial (fun hHeld => ?_)
     clear cl cf
     clear hK K
     try simp only [zt,zs,zz,Act.put,zi,zy,zx]
     refine wpAnyH_done (by kernel_rfl) ?_ _
     refine NoPanic.normal ?_
     clear hHeld
     have hk1 : (XE.setCell ⟨g, 2, none⟩ (.slice (some ⟨og, 0, none⟩) rn c2)).cell? ⟨wr.heap.size, 1, none⟩ = some (.int .i64 ep) := by
      rw [World.cell?_setCell_far _ _ _ _ (by show g ≠ wr.heap.size; omega)]; exact HK1.out
     have hb5 := HB5.out
     have hs1 : (XE.setCell ⟨g, 2, none⟩ (.slice (some ⟨og, 0, none⟩) rn c2)).heap.size = XE.heap.size := by simp [World.setCell]
     have hp2 := HP2.out
     rw [← hs1] at hp2
     have hN1 : w.heap.size < (XE.setCell ⟨g, 2, none⟩ (.slice (some ⟨og, 0, none⟩) rn c2)).heap.size := by rw [hs1]; have := HXS.out; omega
     clear HP2 HB5 HK1 HF1 HF2 HF3 hs1
     generalize XE.setCell ⟨g, 2, none⟩ (.slice (some ⟨og, 0, none⟩) rn c2) = X1 at hk1 hb5 hp2 hN1 ⊢
     have hx2 : (X1.alloc (.cells #[.int .i64 3, .string ⟨#[113, 117, 111, 116, 101]⟩, .slice none 0 0, .slice none 0 0, .int .i64 ep, .int .i64 k1, .string t1, .slice mo1 mn1 mc1, .slice lo1 ln1 lc1, .int .i64 pl1] 29)).heap[w.heap.size]? = some (.cells #[.int .i64 k1, .string t1, .slice mo1 mn1 mc1, .slice lo1 ln1 lc1, .int .i64 pl1] 29 (0, 0)) := by rw [Lib.alloc_old X1 _ _ hN1]; exact hb5
     have HX2 := Lib.hid hx2
     have HP2 := Lib.hid hp2
     clear hx2 hp2 hN1
     have z2 : (#[.int .i64 4, .string ⟨#[]⟩, .slice none 0 0, .slice (some ⟨X1.heap.size, 0, none⟩) 2 2, .int .i64 ep] : Array Value).all (·.oneCell') = true := by simp [Value.oneCell']
     go_wp2_with (first | refine wpList_load_row rfl 29 _ rfl w.heap.size rfl 29 #[.int .i64 k1, .string t1, .slice mo1 mn1 mc1, .slice lo1 ln1 lc1, .int .i64 pl1] (0, 0) _ hb5 Try.underlying29 rfl info40 ?_ | refine wpList_store_row rfl 29 _ _ rfl w.heap.size #[.int .i64 4, .string ⟨#[]⟩, .slice none 0 0, .slice (some ⟨X1.heap.size, 0, none⟩) 2 2, .int .i64 ep] rfl rfl 29 #[.int .i64 k1, .string t1, .slice mo1 mn1 mc1, .slice lo1 ln1 lc1, .int .i64 pl1] HX2.out info40 rfl z2 ?_)
     go_roundw
     case rel =>
      refine ⟨D2, r, out1, (e.add d1).dt, 4, ⟨#[]⟩, none, 0, 0, some ⟨X1.heap.size, 0, none⟩, 2, 2, ep, HP2.out, ?_, ?_⟩
      ·rw [← HEQ.out]
       conv => rhs; unfold putS
       rw [if_pos (by rw [← HEQ9.out])]
      ·exact ⟨fun x hx => HBD.out.1 x (List.mem_cons_of_mem _ hx), HBD.out.2.1, by have := HBD.out.2.2; simp only [List.length_cons] at this; omega⟩
     case measure =>
      obtain ⟨ao7, c7, bo7, dd7, hf7⟩ := HP2.out.rd.form
      have h7 := hf7.cells.2.2.1
      have h8 := HLN.out
      have h9 := HRN.out
      unfold oln at h8 ⊢
      rw [h7]
      simp only []
      omega
end Go.Proofs.Ytecljchifebljaa
