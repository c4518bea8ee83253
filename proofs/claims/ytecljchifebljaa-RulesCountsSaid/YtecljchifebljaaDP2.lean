/- Rules: the program's deepest. -/
import Derived.Test.YtecljchifebljaaYAA
import Derived.Test.YtecljchifebljaaYAC
import Derived.Test.YtecljchifebljaaYAP
import Derived.Shelf.Abstract
import Derived.OwnWalkIn
import Derived.TacticsInMore
set_option linter.unusedVariables false
set_option linter.unusedSimpArgs false
namespace Go.Proofs.Ytecljchifebljaa
open Go Go.RowKit Go.Shelf
attribute [local go_sem] Oper.semAt_some
def RetDp (dp : Option Int) (w : World) (e : Ending) (w' : World) : Prop := ∃ m : Int, e = .returned (.tuple #[.int .i64 m, .bool dp.isSome]) ∧ (∀ x, dp = some x → m = x) ∧ Below w.heap.size w w'
/-- The boxes of a call: block by block from s on. -/
def Boxes (W : World) (s : Nat) (c0 c1 c2 : Array Value) : Prop := W.heap[s]? = some (Obj.cells c0 86 (0, 0)) ∧ W.heap[s + 1]? = some (Obj.cells c1 29 (0, 0)) ∧ W.heap[s + 1 + 1]? = some (Obj.cells c2 3 (0, 0))
def Resu (W : World) (s : Nat) (u v : Value) : Prop := W.heap[s + 1 + 1 + 1]? = some (Obj.cells #[u] 3 (0, 0)) ∧ W.heap[s + 1 + 1 + 1 + 1]? = some (Obj.cells #[v] 4 (0, 0))
theorem Boxes.below {W W' : World} {s : Nat} {c0 c1 c2 : Array Value} (h : Boxes W s c0 c1 c2) (hb : Below W.heap.size W W') : Boxes W' s c0 c1 c2 :=
 ⟨(hb.block _ (Array.getElem?_eq_some_iff.1 h.1).1).trans h.1, (hb.block _ (Array.getElem?_eq_some_iff.1 h.2.1).1).trans h.2.1, (hb.block _ (Array.getElem?_eq_some_iff.1 h.2.2).1).trans h.2.2⟩
theorem Resu.below {W W' : World} {s : Nat} {u v : Value} (h : Resu W s u v) (hb : Below W.heap.size W W') : Resu W' s u v :=
 ⟨(hb.block _ (Array.getElem?_eq_some_iff.1 h.1).1).trans h.1, (hb.block _ (Array.getElem?_eq_some_iff.1 h.2).1).trans h.2⟩
theorem Resu.turn {W W' : World} {s : Nat} {u v : Value} {row : Option Nat} (h : Resu W s u v) (hg : W.grownBy W' row) (hr : ∀ r, row = some r → s + 4 < r) : Resu W' s u v :=
 ⟨(hg.block _ (Array.getElem?_eq_some_iff.1 h.1).1 (fun e => by have := hr _ e.symm; omega)).trans h.1, (hg.block _ (Array.getElem?_eq_some_iff.1 h.2).1 (fun e => by have := hr _ e.symm; omega)).trans h.2⟩
/-- Both results are stored. -/
theorem Resu.set {W : World} {s : Nat} {u v : Value} (h : Resu W s u v) (u' v' : Value) : Resu ((W.setCell ⟨s + 1 + 1 + 1, 0, none⟩ u').setCell ⟨s + 1 + 1 + 1 + 1, 0, none⟩ v') s u' v' ∧ ∀ B, B ≤ s → Below B W ((W.setCell ⟨s + 1 + 1 + 1, 0, none⟩ u').setCell ⟨s + 1 + 1 + 1 + 1, 0, none⟩ v') := by
 have h1 := heap_setCell_same W (s + 1 + 1 + 1) 0 #[u] 3 u' h.1
 have h2 : (W.setCell ⟨s + 1 + 1 + 1, 0, none⟩ u').heap[s + 1 + 1 + 1 + 1]? = some (Obj.cells #[v] 4 (0, 0)) := by rw [heap_setCell_other _ _ _ _ (by show s + 1 + 1 + 1 + 1 ≠ s + 1 + 1 + 1; omega)]; exact h.2
 refine ⟨⟨?_, heap_setCell_same _ (s + 1 + 1 + 1 + 1) 0 #[v] 4 v' h2⟩, fun B hB => ?_⟩
 ·rw [heap_setCell_other _ _ _ _ (by show s + 1 + 1 + 1 ≠ s + 1 + 1 + 1 + 1; omega)]; exact h1
 ·exact ((Below.refl B W).setCell (p := ⟨s + 1 + 1 + 1, 0, none⟩) (by show B ≤ s + 1 + 1 + 1; omega) u').setCell (p := ⟨s + 1 + 1 + 1 + 1, 0, none⟩) (by show B ≤ s + 1 + 1 + 1 + 1; omega) v'
theorem Resu.ret {W : World} {s : Nat} {u v : Value} (h : Resu W s u v) : W.cell? ⟨s + 1 + 1 + 1, 0, none⟩ = some u ∧ W.cell? ⟨s + 1 + 1 + 1 + 1, 0, none⟩ = some v ∧ W.frozen? ⟨s + 1 + 1 + 1, 0, none⟩ = false ∧ W.frozen? ⟨s + 1 + 1 + 1 + 1, 0, none⟩ = false :=
 ⟨by rw [Lib.cell_of_heap h.1]; rfl, by rw [Lib.cell_of_heap h.2]; rfl, by simp [World.frozen?, h.1], by simp [World.frozen?, h.2]⟩
theorem keepsB_set2 {S : Nat → Prop} (W : World) (b : Nat) (u : Value) (h : ¬ S b) : KeepsB S W (W.setCell ⟨b, 0, none⟩ u) := fun g c T fz hs hg => ⟨fz, by rw [heap_setCell_other _ _ _ _ (fun e => h (by have : g = b := e; rw [← this]; exact hs))]; exact hg⟩
theorem keeps_two {B C : Nat} {w V V' : World} (h : Below C w V') (h2 : Below C w V) (hB : B ≤ C) : Keeps (fun g => g < B) V V' := fun g c T fz hs hg _ => ⟨fz, by rw [h.block g (by have : g < B := hs; omega), ← h2.block g (by have : g < B := hs; omega)]; exact hg⟩
def DI (bs : List Bd) (l : List Dt) (q : Int) (w5 : World) (k : Nat) (W : World) : Prop := ∃ m : Int, Below w5.heap.size w5 W ∧ W.heap[w5.heap.size]? = some (Obj.cells #[.int .i64 m] 3 (0, 0)) ∧ dpsts bs l q 0 = dpsts bs (restP l k) q m ∧ w5.heap.size + 2 ≤ W.heap.size
theorem below_turn9 {B : Nat} {w X Y : World} {row : Option Nat} (h : Below B w X) (hg : X.grownBy Y row) (hB : B ≤ X.heap.size) (hr : ∀ r, row = some r → B ≤ r) : Below B w Y :=
 ⟨hg.os.trans h.os, hg.tape.trans h.tape, hg.output.trans h.output, by have := h.size; have := hg.size; omega, fun k hk => (hg.block k (by omega) (fun e => by have := hr k e.symm; omega)).trans (h.block k hk)⟩
theorem DI.own {bs : List Bd} {l : List Dt} {q : Int} {w5 : World} {C : Nat} (hC : w5.heap.size + 2 ≤ C) : OwnFrom C (DI bs l q w5) := by
 rintro k X Y row ⟨m, hb, hm, hd, hs⟩ hgr hr
 exact ⟨m, below_turn9 hb hgr (by omega) (fun r e => by have := (hr r e).1; omega), cells_turn hm hgr (fun r e => (hr r e).2), hd, by have := hgr.size; omega⟩
/-- The round was left: nothing of that depth. -/
def DIx (dp : Option Int) (w : World) (c : Code) (k : Nat) (W : World) : Prop := c = Code.ret ∧ Below w.heap.size w W ∧ Resu W w.heap.size (.int .i64 0) (.bool false) ∧ dp = none
theorem DIx.own {dp : Option Int} {w : World} {c : Code} {C : Nat} (hC : w.heap.size + 5 ≤ C) : OwnFrom C (DIx dp w c) := by
 rintro k X Y row ⟨hc, hb, hm, hd⟩ hgr hr
 exact ⟨hc, below_turn9 hb hgr hb.size (fun r e => by have := (hr r e).1; omega), hm.turn hgr (fun r e => by have := (hr r e).1; omega), hd⟩
set_option maxHeartbeats 16000000 in
set_option maxRecDepth 100000 in
theorem deepest_any (n : Nat) : n ≤ 1000000 → ∀ (d : Dt), d.size ≤ n → d.wf → ∀ (B : Nat) (cs : Array Value) (bs : List Bd) (tv : Value) (bm : Nat) (q : Int) (w : World), B ≤ w.heap.size → Dt.At (fun g => g < B) w d cs → PsAt (fun g => g < B) w tv bs → TbAt w (bm + 1) bm (keysB bs) → bs.length ≤ 1000000 → (∀ b ∈ bs, b.name.size ≤ 1000000) → 0 ≤ q → q + d.size ≤ 9000 →
  Calls Try.prog 74 #[.agg #[tv, .map (some bm)], .agg cs, .int .i64 q] w (RetDp (d.dpst bs q) w) := by
 induction n with
 | zero => intro _ d hd; cases d; simp [Dt.size] at hd
 | succ n ih0 =>
  intro hn d hd hwf B cs bs tv bm q w hBw hat hps htb hbl hbz hq0 hq1
  have IH := Lib.hid (ih0 (by omega))
  have hata := hat
  obtain ⟨d0, hd0⟩ : ∃ d0, d0 = d := ⟨_, rfl⟩
  rw [← hd0] at hata
  have hwf0 := hwf
  rw [← hd0] at hwf0
  obtain ⟨k, t, ms, l, p⟩ := d
  have HP := Lib.hid (dpst_mk bs k t ms l p q)
  rw [← hd0] at HP ⊢
  have hleaf : k ≠ 4 → l = [] := ((wf_mk ..).1 hwf).1
  have hwl : wfs l := ((wf_mk ..).1 hwf).2.2.1
  rw [At_mk] at hat
  obtain ⟨mv, lv, rfl, hm, hl⟩ := hat
  obtain ⟨mo, mc, rfl⟩ := MAt.form2 hm
  obtain ⟨lo, lc, rfl⟩ := hl.form
  have hsz1 : (Dt.mk k t ms l p).size = 1 + Dt.sizes l := by simp only [Dt.size]
  rw [hsz1] at hq1 hd
  have hsz : Dt.sizes l ≤ n := by omega
  clear hsz1
  have hll := length_sizes l
  obtain ⟨to, tc, rfl⟩ := hps.form
  have hb0 : Below w.heap.size w (((((w.alloc (.cells #[.slice to bs.length tc, .map (some bm)] 86)).alloc (.cells #[.int .i64 k, .string t, .slice mo ms.length mc, .slice lo l.length lc, .int .i64 p] 29)).alloc (.cells #[.int .i64 q] 3)).alloc (.cells #[.int .i64 0] 3)).alloc (.cells #[.bool false] 4)) := (((((Below.refl _ _).alloc (Nat.le_refl _) _).alloc (by simp) _).alloc (by simp <;> omega) _).alloc (by simp <;> omega) _).alloc (by simp <;> omega) _
  have hbx : Boxes (((((w.alloc (.cells #[.slice to bs.length tc, .map (some bm)] 86)).alloc (.cells #[.int .i64 k, .string t, .slice mo ms.length mc, .slice lo l.length lc, .int .i64 p] 29)).alloc (.cells #[.int .i64 q] 3)).alloc (.cells #[.int .i64 0] 3)).alloc (.cells #[.bool false] 4)) w.heap.size #[.slice to bs.length tc, .map (some bm)] #[.int .i64 k, .string t, .slice mo ms.length mc, .slice lo l.length lc, .int .i64 p] #[.int .i64 q] := by
   have s1 : (w.alloc (.cells #[.slice to bs.length tc, .map (some bm)] 86)).heap.size = w.heap.size + 1 := by simp
   have s2 : ((w.alloc (.cells #[.slice to bs.length tc, .map (some bm)] 86)).alloc (.cells #[.int .i64 k, .string t, .slice mo ms.length mc, .slice lo l.length lc, .int .i64 p] 29)).heap.size = w.heap.size + 1 + 1 := by simp
   refine ⟨?_, ?_, ?_⟩
   ·exact (Lib.alloc_old _ _ _ (by simp <;> omega)).trans ((Lib.alloc_old _ _ _ (by simp <;> omega)).trans ((Lib.alloc_old _ _ _ (by simp <;> omega)).trans ((Lib.alloc_old _ _ _ (by simp)).trans (alloc_at _ _))))
   ·exact (Lib.alloc_old _ _ _ (by simp <;> omega)).trans ((Lib.alloc_old _ _ _ (by simp <;> omega)).trans ((Lib.alloc_old _ _ _ (by simp)).trans (second2 _ _ _)))
   ·refine (Lib.alloc_old _ _ _ (by simp <;> omega)).trans ((Lib.alloc_old _ _ _ (by simp)).trans ?_)
    have h := alloc_at ((w.alloc (.cells #[.slice to bs.length tc, .map (some bm)] 86)).alloc (.cells #[.int .i64 k, .string t, .slice mo ms.length mc, .slice lo l.length lc, .int .i64 p] 29)) (.cells #[.int .i64 q] 3)
    rw [s2] at h; exact h
  have hrs : Resu (((((w.alloc (.cells #[.slice to bs.length tc, .map (some bm)] 86)).alloc (.cells #[.int .i64 k, .string t, .slice mo ms.length mc, .slice lo l.length lc, .int .i64 p] 29)).alloc (.cells #[.int .i64 q] 3)).alloc (.cells #[.int .i64 0] 3)).alloc (.cells #[.bool false] 4)) w.heap.size (.int .i64 0) (.bool false) := by
   have s3 : (((w.alloc (.cells #[.slice to bs.length tc, .map (some bm)] 86)).alloc (.cells #[.int .i64 k, .string t, .slice mo ms.length mc, .slice lo l.length lc, .int .i64 p] 29)).alloc (.cells #[.int .i64 q] 3)).heap.size = w.heap.size + 1 + 1 + 1 := by simp
   have s4 : ((((w.alloc (.cells #[.slice to bs.length tc, .map (some bm)] 86)).alloc (.cells #[.int .i64 k, .string t, .slice mo ms.length mc, .slice lo l.length lc, .int .i64 p] 29)).alloc (.cells #[.int .i64 q] 3)).alloc (.cells #[.int .i64 0] 3)).heap.size = w.heap.size + 1 + 1 + 1 + 1 := by simp
   refine ⟨?_, ?_⟩
   ·refine (Lib.alloc_old _ _ _ (by simp <;> omega)).trans ?_
    have h := alloc_at (((w.alloc (.cells #[.slice to bs.length tc, .map (some bm)] 86)).alloc (.cells #[.int .i64 k, .string t, .slice mo ms.length mc, .slice lo l.length lc, .int .i64 p] 29)).alloc (.cells #[.int .i64 q] 3)) (.cells #[.int .i64 0] 3)
    rw [s3] at h; exact h
   ·have h := alloc_at ((((w.alloc (.cells #[.slice to bs.length tc, .map (some bm)] 86)).alloc (.cells #[.int .i64 k, .string t, .slice mo ms.length mc, .slice lo l.length lc, .int .i64 p] 29)).alloc (.cells #[.int .i64 q] 3)).alloc (.cells #[.int .i64 0] 3)) (.cells #[.bool false] 4)
    rw [s4] at h; exact h
  have hs0 : (((((w.alloc (.cells #[.slice to bs.length tc, .map (some bm)] 86)).alloc (.cells #[.int .i64 k, .string t, .slice mo ms.length mc, .slice lo l.length lc, .int .i64 p] 29)).alloc (.cells #[.int .i64 q] 3)).alloc (.cells #[.int .i64 0] 3)).alloc (.cells #[.bool false] 4)).heap.size = w.heap.size + 5 := by simp
  obtain ⟨X, hX⟩ : ∃ X, X = (((((w.alloc (.cells #[.slice to bs.length tc, .map (some bm)] 86)).alloc (.cells #[.int .i64 k, .string t, .slice mo ms.length mc, .slice lo l.length lc, .int .i64 p] 29)).alloc (.cells #[.int .i64 q] 3)).alloc (.cells #[.int .i64 0] 3)).alloc (.cells #[.bool false] 4)) := ⟨_, rfl⟩
  rw [← hX] at hb0 hbx hrs hs0
  have HX := Lib.hid hX
  have HB0 := Lib.hid hb0
  have HBX := Lib.hid hbx
  have HRS := Lib.hid hrs
  have HAT := Lib.hid (Dt.At.keeps (Keeps.of_below hb0) _ _ hata)
  have HL := Lib.hid (hl.keeps (Keeps.of_below hb0))
  have HPS := Lib.hid (hps.keeps (KeepsB.of_below hb0))
  have HTB := Lib.hid (htb.kept (Below.grownRow hb0 none) (fun r e => by cases e))
  have HBZ := Lib.hid hbz
  have HWF := Lib.hid hwl
  have HLEAF := Lib.hid hleaf
  have FP0 := place_any bs _ bm d0 _ X HPS.out HTB.out HAT.out hwf0 hbl hbz
  rw [show RetPl bs d0 X = fun e w' => e = .returned (.tuple #[.int .i64 ((fpos bs d0).getD 0 : Nat), .bool (fpos bs d0).isSome]) ∧ Below X.heap.size X w' from by funext e w'; unfold RetPl; rw [plV_is]] at FP0
  obtain ⟨fq, hfq⟩ : ∃ q, q = (fpos bs d0).getD 0 := ⟨_, rfl⟩
  rw [← hfq] at FP0
  have hfp : fpos bs d0 = none ∨ (∃ i, fpos bs d0 = some i ∧ i < bs.length) := by
   cases h : fpos bs d0 with
   | none => exact .inl rfl
   | some i =>
    have := (List.findIdx?_eq_some_iff_getElem.1 h).1
    exact .inr ⟨i, rfl, this⟩
  have FP := Lib.hid FP0
  have HFQ := Lib.hid hfq
  clear hX hb0 hbx hrs hata hm hl hps htb hwf hleaf hwl ih0 hd hd0 hwf0 FP0 hbz hfq
  refine callsIn_wide.1 (callsIn_of_wp_marks (n := 9) Try.func74 rfl trivial ?_ rfl)
  refine wpIn_wide.2 ?_
  simp only [Try.ntmps74, List.size_toArray, List.length_cons, List.length_nil, Nat.reduceAdd, Nat.reduceSub, Array.replicate_succ, Array.replicate_zero, List.push_toArray, List.append_toArray, List.nil_append, List.cons_append]
  go_upto_region 1 with fail
  rw [← HX.out]
  have y0 : X.cell? ⟨w.heap.size, 0, none⟩ = some (.slice to bs.length tc) := by rw [Lib.cell_of_heap HBX.out.1]; rfl
  have y1 : X.cell? ⟨w.heap.size, 1, none⟩ = some (.map (some bm)) := by rw [Lib.cell_of_heap HBX.out.1]; rfl
  have y60 : X.cell? ⟨w.heap.size + 1, 0, none⟩ = some (.int .i64 k) := by rw [Lib.cell_of_heap HBX.out.2.1]; rfl
  have y61 : X.cell? ⟨w.heap.size + 1, 1, none⟩ = some (.string t) := by rw [Lib.cell_of_heap HBX.out.2.1]; rfl
  have y62 : X.cell? ⟨w.heap.size + 1, 2, none⟩ = some (.slice mo ms.length mc) := by rw [Lib.cell_of_heap HBX.out.2.1]; rfl
  have y63 : X.cell? ⟨w.heap.size + 1, 3, none⟩ = some (.slice lo l.length lc) := by rw [Lib.cell_of_heap HBX.out.2.1]; rfl
  have y64 : X.cell? ⟨w.heap.size + 1, 4, none⟩ = some (.int .i64 p) := by rw [Lib.cell_of_heap HBX.out.2.1]; rfl
  go_wp2_with fail
  refine FP.out.mono ?_
  rintro e w3 ⟨rfl, hb3⟩
  clear y0 y1 y60 y61 y62 y63 y64 FP
  have hs3 := hb3.size
  have HB3 := Lib.hid (HB0.out.trans (hb3.mono HB0.out.size))
  have HX3 := Lib.hid (HBX.out.below hb3)
  have HR3 := Lib.hid (HRS.out.below hb3)
  have HA3 := Lib.hid (Dt.At.keeps (Keeps.of_below hb3) _ _ HAT.out)
  have HL3 := Lib.hid (HL.out.keeps (Keeps.of_below hb3))
  have HPS3 := Lib.hid (HPS.out.keeps (KeepsB.of_below hb3))
  have HT3 := Lib.hid (HTB.out.kept (Below.grownRow hb3 none) (fun r e => by cases e))
  clear hb3 HBX HRS HAT HL HPS HTB
  rcases hfp with hfn | ⟨i, hfi, hib⟩
  ·have HD : Hid (d0.dpst bs q = if d0.dots = true ∨ (k = 4 ∧ strays l true = true) then none else dpsts bs l q 0) := by show _ = _; rw [HP.out, hfn]
   have qnone : (fpos bs d0).isSome = false := by rw [hfn]; rfl
   rw [qnone]
   clear qnone hfn
   have y60 : w3.cell? ⟨w.heap.size + 1, 0, none⟩ = some (.int .i64 k) := by rw [Lib.cell_of_heap HX3.out.2.1]; rfl
   have y61 : w3.cell? ⟨w.heap.size + 1, 1, none⟩ = some (.string t) := by rw [Lib.cell_of_heap HX3.out.2.1]; rfl
   have y62 : w3.cell? ⟨w.heap.size + 1, 2, none⟩ = some (.slice mo ms.length mc) := by rw [Lib.cell_of_heap HX3.out.2.1]; rfl
   have y63 : w3.cell? ⟨w.heap.size + 1, 3, none⟩ = some (.slice lo l.length lc) := by rw [Lib.cell_of_heap HX3.out.2.1]; rfl
   have y64 : w3.cell? ⟨w.heap.size + 1, 4, none⟩ = some (.int .i64 p) := by rw [Lib.cell_of_heap HX3.out.2.1]; rfl
   go_wp2_with fail
   refine (isdots_any HA3.out _).mono ?_
   rintro e w5 ⟨rfl, hb5⟩
   clear y60 y61 y62 y63 y64
   have hs5 := hb5.size
   have HB5 := Lib.hid (HB3.out.trans (hb5.mono HB3.out.size))
   have HX5 := Lib.hid (HX3.out.below hb5)
   have HR5 := Lib.hid (HR3.out.below hb5)
   have HA5 := Lib.hid (Dt.At.keeps (Keeps.of_below hb5) _ _ HA3.out)
   have HL5 := Lib.hid (HL3.out.keeps (Keeps.of_below hb5))
   have HPS5 := Lib.hid (HPS3.out.keeps (KeepsB.of_below hb5))
   have HT5 := Lib.hid (HT3.out.kept (Below.grownRow hb5 none) (fun r e => by cases e))
   clear hb5 HX3 HR3 HA3 HL3 HPS3 HT3 HB3
   have y60 : w5.cell? ⟨w.heap.size + 1, 0, none⟩ = some (.int .i64 k) := by rw [Lib.cell_of_heap HX5.out.2.1]; rfl
   have y63 : w5.cell? ⟨w.heap.size + 1, 3, none⟩ = some (.slice lo l.length lc) := by rw [Lib.cell_of_heap HX5.out.2.1]; rfl
   cases hdd : d0.dots with
   | true =>
    have hdec : d0.dpst bs q = none := by rw [HD.out, if_pos (.inl hdd)]
    have HDEC := Lib.hid hdec
    clear hdec hdd HD
    have r6 := HR5.out.ret.1
    have r7 := (HR5.out.set (.int .i64 0) (.bool false)).1.ret
    have c7 : (w5.setCell ⟨w.heap.size + 1 + 1 + 1, 0, none⟩ (.int .i64 0)).cell? ⟨w.heap.size + 1 + 1 + 1 + 1, 0, none⟩ = some (.bool false) := (World.cell?_setCell_far _ _ _ _ (by show w.heap.size + 1 + 1 + 1 ≠ w.heap.size + 1 + 1 + 1 + 1; omega)).trans HR5.out.ret.2.1
    have f7 : (w5.setCell ⟨w.heap.size + 1 + 1 + 1, 0, none⟩ (.int .i64 0)).frozen? ⟨w.heap.size + 1 + 1 + 1 + 1, 0, none⟩ = false := by rw [World.frozen?_setCell]; exact HR5.out.ret.2.2.2
    have f6 := HR5.out.ret.2.2.1
    go_wp2_with fail
    have hset := HR5.out.set (.int .i64 0) (.bool false)
    refine ⟨.tuple #[.int .i64 0, .bool false], by simp [results, Try.f74, go_sem, hset.1.ret.1, hset.1.ret.2.1], (show RetDp _ _ _ _ from ⟨0, by rw [HDEC.out]; rfl, fun x hx => (by rw [HDEC.out] at hx; cases hx), HB5.out.trans (hset.2 _ (by omega))⟩)⟩
   | false =>
    by_cases hk4 : k = 4
    ·have q4 : (k == 4) = true := beq_iff_eq.2 hk4
     have HK4 := Lib.hid hk4
     have HDD := Lib.hid hdd
     clear hk4 hdd
     go_wp2_with fail
     refine (stray_any l _ w5 HL5.out (by omega)).mono ?_
     rintro e w7 ⟨rfl, hb7⟩
     clear y60 y63
     have hs7 := hb7.size
     have HB7 := Lib.hid (HB5.out.trans (hb7.mono HB5.out.size))
     have HX7 := Lib.hid (HX5.out.below hb7)
     have HR7 := Lib.hid (HR5.out.below hb7)
     have HL7 := Lib.hid (HL5.out.keeps (Keeps.of_below hb7))
     have HPS7 := Lib.hid (HPS5.out.keeps (KeepsB.of_below hb7))
     have HT7 := Lib.hid (HT5.out.kept (Below.grownRow hb7 none) (fun r e => by cases e))
     clear hb7 HX5 HR5 HA5 HL5 HPS5 HT5 HB5
     cases hstr : strays l true with
     | true =>
      have hdec : d0.dpst bs q = none := by rw [HD.out, if_pos (.inr ⟨HK4.out, hstr⟩)]
      have HDEC := Lib.hid hdec
      clear hdec hstr HD
      have r6 := HR7.out.ret.1
      have c7 : (w7.setCell ⟨w.heap.size + 1 + 1 + 1, 0, none⟩ (.int .i64 0)).cell? ⟨w.heap.size + 1 + 1 + 1 + 1, 0, none⟩ = some (.bool false) := (World.cell?_setCell_far _ _ _ _ (by show w.heap.size + 1 + 1 + 1 ≠ w.heap.size + 1 + 1 + 1 + 1; omega)).trans HR7.out.ret.2.1
      have f7 : (w7.setCell ⟨w.heap.size + 1 + 1 + 1, 0, none⟩ (.int .i64 0)).frozen? ⟨w.heap.size + 1 + 1 + 1 + 1, 0, none⟩ = false := by rw [World.frozen?_setCell]; exact HR7.out.ret.2.2.2
      have f6 := HR7.out.ret.2.2.1
      go_wp2_with fail
      have hset := HR7.out.set (.int .i64 0) (.bool false)
      refine ⟨.tuple #[.int .i64 0, .bool false], by simp [results, Try.f74, go_sem, hset.1.ret.1, hset.1.ret.2.1], (show RetDp _ _ _ _ from ⟨0, by rw [HDEC.out]; rfl, fun x hx => (by rw [HDEC.out] at hx; cases hx), HB7.out.trans (hset.2 _ (by omega))⟩)⟩
     | false =>
      have hdec : d0.dpst bs q = dpsts bs l q 0 := by rw [HD.out, if_neg (fun h => by rcases h with h | h; (· rw [HDD.out] at h; cases h); exact absurd h.2 (by rw [hstr]; decide))]
      have HDEC := Lib.hid hdec
      clear hdec hstr HD
      have ha7 : Below w7.heap.size w7 (w7.alloc (.cells #[.int .i64 0] 3)) := (Below.refl _ _).alloc (Nat.le_refl _) _
      have hXA := HX7.out.below ha7
      have y60 : (w7.alloc (.cells #[.int .i64 0] 3)).cell? ⟨w.heap.size + 1, 0, none⟩ = some (.int .i64 k) := by rw [Lib.cell_of_heap hXA.2.1]; rfl
      have y61 : (w7.alloc (.cells #[.int .i64 0] 3)).cell? ⟨w.heap.size + 1, 1, none⟩ = some (.string t) := by rw [Lib.cell_of_heap hXA.2.1]; rfl
      have y62 : (w7.alloc (.cells #[.int .i64 0] 3)).cell? ⟨w.heap.size + 1, 2, none⟩ = some (.slice mo ms.length mc) := by rw [Lib.cell_of_heap hXA.2.1]; rfl
      have y63 : (w7.alloc (.cells #[.int .i64 0] 3)).cell? ⟨w.heap.size + 1, 3, none⟩ = some (.slice lo l.length lc) := by rw [Lib.cell_of_heap hXA.2.1]; rfl
      have y64 : (w7.alloc (.cells #[.int .i64 0] 3)).cell? ⟨w.heap.size + 1, 4, none⟩ = some (.int .i64 p) := by rw [Lib.cell_of_heap hXA.2.1]; rfl
      clear hXA
      go_wp2_with fail
      refine (parts_any k t _ _ p rfl rfl _).mono ?_
      rintro e w9 ⟨rfl, rfl⟩
      clear y60 y61 y62 y63 y64
      go_wp2_with fail
      have hWs : ((w7.alloc (.cells #[.int .i64 0] 3)).alloc (.cells #[.int .i64 k, .string t, .slice mo ms.length mc, .slice lo l.length lc, .int .i64 p] 29)).heap.size = w7.heap.size + 1 + 1 := by simp
      have hWb : ((w7.alloc (.cells #[.int .i64 0] 3)).alloc (.cells #[.int .i64 k, .string t, .slice mo ms.length mc, .slice lo l.length lc, .int .i64 p] 29)).heap[w7.heap.size + 1]? = some (Obj.cells #[.int .i64 k, .string t, .slice mo ms.length mc, .slice lo l.length lc, .int .i64 p] 29 (0, 0)) := by have h := alloc_at (w7.alloc (.cells #[.int .i64 0] 3)) (.cells #[.int .i64 k, .string t, .slice mo ms.length mc, .slice lo l.length lc, .int .i64 p] 29); rw [World.size_alloc] at h; exact h
      have hWm : ((w7.alloc (.cells #[.int .i64 0] 3)).alloc (.cells #[.int .i64 k, .string t, .slice mo ms.length mc, .slice lo l.length lc, .int .i64 p] 29)).heap[w7.heap.size]? = some (Obj.cells #[.int .i64 0] 3 (0, 0)) := (Lib.alloc_old _ _ _ (by simp)).trans (alloc_at _ _)
      have hbW : Below w7.heap.size w7 ((w7.alloc (.cells #[.int .i64 0] 3)).alloc (.cells #[.int .i64 k, .string t, .slice mo ms.length mc, .slice lo l.length lc, .int .i64 p] 29)) := ha7.alloc (by simp) _
      obtain ⟨W, hW⟩ : ∃ W, W = (w7.alloc (.cells #[.int .i64 0] 3)).alloc (.cells #[.int .i64 k, .string t, .slice mo ms.length mc, .slice lo l.length lc, .int .i64 p] 29) := ⟨_, rfl⟩
      rw [← hW] at hWs hWb hWm hbW
      rw [← hW]
      have hLW : LAt (fun g => g < B) W (.slice lo l.length lc) l := HL7.out.keeps (keeps_low (hbW.mono (by omega)))
      obtain ⟨cf, hcf⟩ := CfAt.of hLW
      have HH : Hid (Hands Fence.wide 8 Try.prog 87 #[.pointer (some ⟨w7.heap.size + 1, 0, none⟩)] (partA cf l) (KeepsB (fun g => g < w7.heap.size ∨ g = w7.heap.size + 1)) (pix l).length W) := by
       rw [HK4.out] at hWb
       exact parts1_hands 8 (w7.heap.size + 1) t (.slice mo ms.length mc) (.slice lo l.length lc) p l cf W (.inr rfl) (by omega) hWb (hLW.mono fun g h => .inl (by omega)) (hcf.mono fun g h => .inl (by omega)) (by omega)
      have h0 : DI bs l q w7 0 W := ⟨0, hbW, hWm, rest_zero (fun L => dpsts bs L q 0) (dpsts_dots bs q 0) l, by omega⟩
      have HCF := Lib.hid hcf
      have HBW := Lib.hid hbW
      clear hW hWb hWm hbW hLW hcf ha7
      refine (wpIn_wide (n := 9)).1 ?_
      refine wpIn_rangeFunc_count (F := Fence.wide) rfl (by decide) (gf := 87) (lb := #[.pointer (some ⟨w7.heap.size + 1, 0, none⟩)]) rfl trivial (enters_of Try.func87 (by kernel_rfl) rfl) HH.out (fun h k => h.trans k) (fun W' l' o o' _ hl ho _ => keepsB_putObj W' l' o o' hl ho)
       (Below.refl _ _) (fun k => partA_size cf l k) (DI bs l q w7) (DIx (dpsts bs l q 0) w) (DI.own (by omega)) (fun c => DIx.own (by omega)) h0
       (VAx 0 cf l (fun x9 x10 x23 => { tmps := #[.agg #[.slice to bs.length tc, .map (some bm)], .agg #[.int .i64 k, .string t, .slice mo ms.length mc, .slice lo l.length lc, .int .i64 p], .int .i64 q, .pointer (some ⟨w.heap.size, 0, none⟩), .pointer (some ⟨w.heap.size + 1, 0, none⟩), .pointer (some ⟨w.heap.size + 1 + 1, 0, none⟩), .pointer (some ⟨w.heap.size + 1 + 1 + 1, 0, none⟩), .pointer (some ⟨w.heap.size + 1 + 1 + 1 + 1, 0, none⟩), .int .i64 fq, .bool false, undef, .pointer (some ⟨w7.heap.size, 0, none⟩), x9, x10, undef, undef, undef, .tuple #[.int .i64 fq, .bool false], .pointer (some ⟨w.heap.size, 0, none⟩), .agg #[.slice to bs.length tc, .map (some bm)], .agg #[.int .i64 k, .string t, .slice mo ms.length mc, .slice lo l.length lc, .int .i64 p], .tuple #[.int .i64 fq, .bool false], .int .i64 fq, .bool false, .bool false, undef, undef, undef, undef, undef, undef, undef, undef, undef, undef, undef, undef, undef, undef, undef, .agg #[.int .i64 k, .string t, .slice mo ms.length mc, .slice lo l.length lc, .int .i64 p], .bool false, .bool false, .pointer (some ⟨w.heap.size + 1, 0, none⟩), .int .i64 k, .bool true, .bool true, .pointer (some ⟨w.heap.size + 1, 3, none⟩), .slice lo l.length lc, .bool false, .bool false, .bool false, .agg #[.int .i64 k, .string t, .slice mo ms.length mc, .slice lo l.length lc, .int .i64 p], .func (.func 87) #[] #[.pointer (some ⟨w7.heap.size + 1, 0, none⟩)], x23, x10, undef, undef, undef, undef, undef, undef, undef, undef, undef, undef, undef, undef, undef, undef, undef, undef, undef, undef, undef, undef, undef, undef, undef, undef], defers := [] })) VAx.own ?assign ?body ?done ?stop
      case stop =>
       rintro D c k' W' hD _ ⟨rfl, hb, hr, hn⟩ hK
       have HBB := Lib.hid hb
       have HRR := Lib.hid hr
       clear hb hr
       refine wpIn_ret ?_
       refine ⟨by simp, .inl ⟨_, _, rfl, run_takeDeferred hK, ?_⟩⟩
       have hgD := grownBy_putObj' W' D (.deferred none)
       have hr2 := HRR.out.turn hgD (fun r e => by cases e; omega)
       refine ⟨.tuple #[.int .i64 0, .bool false], by simp [results, Try.f74, go_sem, hr2.ret.1, hr2.ret.2.1], (show RetDp _ _ _ _ from ⟨0, by rw [HDEC.out, hn]; rfl, fun x hx => (by rw [HDEC.out, hn] at hx; cases hx), below_turn9 HBB.out hgD HBB.out.size (fun r e => by cases e; omega)⟩)⟩
      case done =>
       rintro D W' hD ⟨m, hb, hm, hd9, hs9⟩ hK
       have HDN : Hid (dpsts bs l q 0 = some m) := by show _ = _; rw [hd9, rest_end, dpsts]
       have cm : W'.cell? ⟨w7.heap.size, 0, none⟩ = some (.int .i64 m) := by rw [Lib.cell_of_heap hm]; rfl
       have hr := HR7.out.below hb
       have HRR := Lib.hid hr
       have HBB := Lib.hid (HB7.out.trans (hb.mono HB7.out.size))
       have c7 : (W'.setCell ⟨w.heap.size + 1 + 1 + 1, 0, none⟩ (.int .i64 m)).cell? ⟨w.heap.size + 1 + 1 + 1 + 1, 0, none⟩ = some (.bool false) := (World.cell?_setCell_far _ _ _ _ (by show w.heap.size + 1 + 1 + 1 ≠ w.heap.size + 1 + 1 + 1 + 1; omega)).trans hr.ret.2.1
       have f7 : (W'.setCell ⟨w.heap.size + 1 + 1 + 1, 0, none⟩ (.int .i64 m)).frozen? ⟨w.heap.size + 1 + 1 + 1 + 1, 0, none⟩ = false := by rw [World.frozen?_setCell]; exact hr.ret.2.2.2
       have f6 := hr.ret.2.2.1
       have c6 := hr.ret.1
       have hDo := Array.getElem?_eq_some_iff.1 hK
       clear hb hm hd9 hr
       go_wp2_with fail
       have hset := HRR.out.set (.int .i64 m) (.bool true)
       have hK2 : ((W'.setCell ⟨w.heap.size + 1 + 1 + 1, 0, none⟩ (.int .i64 m)).setCell ⟨w.heap.size + 1 + 1 + 1 + 1, 0, none⟩ (.bool true)).heap[D]? = some (.deferred (some [])) := by
        rw [heap_setCell_other _ _ _ _ (by show D ≠ w.heap.size + 1 + 1 + 1 + 1; omega), heap_setCell_other _ _ _ _ (by show D ≠ w.heap.size + 1 + 1 + 1; omega)]; exact hK
       refine ⟨by simp, .inl ⟨_, _, rfl, run_takeDeferred hK2, ?_⟩⟩
       have hgD := grownBy_putObj' ((W'.setCell ⟨w.heap.size + 1 + 1 + 1, 0, none⟩ (.int .i64 m)).setCell ⟨w.heap.size + 1 + 1 + 1 + 1, 0, none⟩ (.bool true)) D (.deferred none)
       have hr2 := hset.1.turn hgD (fun r e => by cases e; omega)
       have hbb := HBB.out.trans (hset.2 _ (Nat.le_refl _))
       refine ⟨.tuple #[.int .i64 m, .bool true], by simp [results, Try.f74, go_sem, hr2.ret.1, hr2.ret.2.1], (show RetDp _ _ _ _ from ⟨m, by rw [HDEC.out, HDN.out]; rfl, fun x hx => (by rw [HDEC.out, HDN.out] at hx; exact Option.some.inj hx), below_turn9 hbb hgD hbb.size (fun r e => by cases e; omega)⟩)⟩
      case assign =>
       intro l' k' W' K hk hi hK
       have hjl := pix_lt hk
       have hpa := partA_pc (cf := cf) hk
       have hpc : pc cf l k' = cf ((pix l)[k']) := by unfold pc; rw [List.getElem?_eq_getElem hk, Option.getD_some]
       obtain ⟨k5, t5, mo5, mn5, mc5, lo5, ln5, lc5, p5, hcs⟩ := At_slices (HCF.out _ hjl).1
       rw [hpa, hpc, hcs]
       gi_wp2
       refine hK _ _ (keepsFrom_cells (World.grownBy_alloc _ _ none) (fun r e => by cases e)) (KeepsB.of_below ((Below.refl _ _).alloc (Nat.le_refl _) _)) ((DI.own (C := W.heap.size) (by omega)) k' W' _ none hi (World.grownBy_alloc _ _ none) (fun r e => by cases e)) ?_
       refine ⟨W'.heap.size, ?_, ?_, ?_⟩
       ·exact Nat.zero_le _
       ·rw [hpc, hcs]; exact alloc_at _ _
       ·rw [hpc, hcs]
      case body =>
       intro l' k' a' W' hk hi hax
       obtain ⟨Bx, _, hbx, rfl⟩ := hax
       obtain ⟨m, hb, hm, hd9, hs9⟩ := hi
       have hjl := pix_lt hk
       have hpc : pc cf l k' = cf ((pix l)[k']) := by unfold pc; rw [List.getElem?_eq_getElem hk, Option.getD_some]
       have hsg := size_get l _ hjl
       have hwfp := wfs_get HWF.out _ hjl
       have hpb : nxtDots (l.drop ((pix l)[k'] + 1)) = pb l k' := by unfold pb; rw [List.getElem?_eq_getElem hk, Option.getD_some]
       have hst := dpsts_cons bs (l[(pix l)[k']]) (l.drop ((pix l)[k'] + 1)) q m
       rw [← rest_cons hk, if_neg (by rw [pix_dots hk]; decide), hpb] at hst
       have hnx := fun m' => rest_next (fun L => dpsts bs L q m') (dpsts_dots bs q m') l k' hk
       simp only [hnx] at hst
       have hdat := (HCF.out _ hjl).1
       rw [← hpc] at hdat
       obtain ⟨k5, t5, mo5, mn5, mc5, lo5, ln5, lc5, p5, hcs⟩ := At_slices hdat
       rw [hcs] at hdat hbx
       obtain ⟨dp, hdp⟩ : ∃ d, d = l[(pix l)[k']] := ⟨_, rfl⟩
       rw [← hdp] at hdat hst hsg hwfp
       obtain ⟨bb, hbb⟩ : ∃ b, b = pb l k' := ⟨_, rfl⟩
       rw [← hbb] at hst
       rw [hcs, ← hbb]
       obtain ⟨q9, hq9⟩ : ∃ q9, q9 = (if bb = true then q + 1 else q) := ⟨_, rfl⟩
       rw [← hq9] at hst
       have F50 : ∀ w : World, Calls Try.prog 72 #[.int .i64 q, .bool bb] w fun e w' => e = .returned (.int .i64 q9) ∧ w = w' := fun w => by rw [hq9]; exact inner_any q bb (by omega) (by omega) w
       have hqq : 0 ≤ q9 ∧ q9 + dp.size ≤ 9000 := by rw [hq9]; split <;> omega
       have hBX5 := HX7.out.below hb
       have c0 : W'.cell? ⟨w.heap.size, 0, none⟩ = some (.slice to bs.length tc) := by rw [Lib.cell_of_heap hBX5.1]; rfl
       have c1 : W'.cell? ⟨w.heap.size, 1, none⟩ = some (.map (some bm)) := by rw [Lib.cell_of_heap hBX5.1]; rfl
       have c2 : W'.cell? ⟨w.heap.size + 1 + 1, 0, none⟩ = some (.int .i64 q) := by rw [Lib.cell_of_heap hBX5.2.2]; rfl
       have x0 : W'.cell? ⟨Bx, 0, none⟩ = some (.int .i64 k5) := by rw [Lib.cell_of_heap hbx]; rfl
       have x1 : W'.cell? ⟨Bx, 1, none⟩ = some (.string t5) := by rw [Lib.cell_of_heap hbx]; rfl
       have x2 : W'.cell? ⟨Bx, 2, none⟩ = some (.slice mo5 mn5 mc5) := by rw [Lib.cell_of_heap hbx]; rfl
       have x3 : W'.cell? ⟨Bx, 3, none⟩ = some (.slice lo5 ln5 lc5) := by rw [Lib.cell_of_heap hbx]; rfl
       have x4 : W'.cell? ⟨Bx, 4, none⟩ = some (.int .i64 p5) := by rw [Lib.cell_of_heap hbx]; rfl
       have hdatW : Dt.At (fun g => g < B) W' dp #[.int .i64 k5, .string t5, .slice mo5 mn5 mc5, .slice lo5 ln5 lc5, .int .i64 p5] := Dt.At.keeps (keeps_two hb HBW.out (by omega)) _ _ hdat
       have hpsW := HPS7.out.keeps (KeepsB.of_below hb)
       have htbW := HT7.out.kept (Below.grownRow hb none) (fun r e => by cases e)
       have F74 := Lib.hid (IH.out dp (by omega) hwfp B _ bs _ bm q9 W' (by omega) hdatW hpsW htbW hbl HBZ.out hqq.1 hqq.2)
       have F5 := Lib.hid F50
       have HST := Lib.hid hst
       have HB9 := Lib.hid hb
       have HM := Lib.hid hm
       have HD9 := Lib.hid hd9
       clear hb hm hd9 hst hjl hpc hsg hwfp hpb hnx hdat hcs hdp hbb hq9 F50 hBX5 hbx hdatW hpsW htbW
       refine wpIn_block ?_
       gi_wp2
       refine ⟨trivial, CallsIn.inRound l' (callsIn_wide.2 (F5.out W')) |>.mono ?_⟩
       rintro e w5' ⟨rfl, rfl⟩
       gi_wp2
       refine ⟨trivial, CallsIn.inRound l' (callsIn_wide.2 F74.out) |>.mono ?_⟩
       rintro e w6 ⟨x, rfl, hx, hb6⟩
       clear c0 c1 c2 x0 x1 x2 x3 x4 F74
       have hs6 := hb6.size
       have HBX := Lib.hid hb6
       have HB6 := Lib.hid (HB9.out.trans (hb6.mono HB9.out.size))
       have HR6 := Lib.hid (HR7.out.below HB6.out)
       have HM6 : Hid (w6.heap[w7.heap.size]? = some (Obj.cells #[.int .i64 m] 3 (0, 0))) := (hb6.block _ (Array.getElem?_eq_some_iff.1 HM.out).1).trans HM.out
       have hst := HST.out
       obtain ⟨dv, hdv⟩ : ∃ y, y = dp.dpst bs q9 := ⟨_, rfl⟩
       rw [← hdv] at hst hx ⊢
       clear HST hb6 hdv HB9 HM
       cases dv with
       | none =>
        have HNO : Hid (dpsts bs l q 0 = none) := by show _ = _; rw [HD9.out, hst]
        clear hst hx
        rw [show (none : Option Int).isSome = false from rfl]
        have r6 := HR6.out.ret.1
        have f6 := HR6.out.ret.2.2.1
        have c7 : (w6.setCell ⟨w.heap.size + 1 + 1 + 1, 0, none⟩ (.int .i64 0)).cell? ⟨w.heap.size + 1 + 1 + 1 + 1, 0, none⟩ = some (.bool false) := (World.cell?_setCell_far _ _ _ _ (by show w.heap.size + 1 + 1 + 1 ≠ w.heap.size + 1 + 1 + 1 + 1; omega)).trans HR6.out.ret.2.1
        have f7 : (w6.setCell ⟨w.heap.size + 1 + 1 + 1, 0, none⟩ (.int .i64 0)).frozen? ⟨w.heap.size + 1 + 1 + 1 + 1, 0, none⟩ = false := by rw [World.frozen?_setCell]; exact HR6.out.ret.2.2.2
        gi_wp2
        show KeepsFrom W.heap.size W' _ ∧ DIx (dpsts bs l q 0) w Code.ret k' _
        have hset := HR6.out.set (.int .i64 0) (.bool false)
        refine ⟨(KeepsFrom.of_grownBy (Below.grownRow HBX.out none) (fun _ e => by cases e)).trans ((KeepsFrom.of_grownBy (grownBy_setCell' w6 (w.heap.size + 1 + 1 + 1) _) (fun r e => by injection e with e; omega)).trans (KeepsFrom.of_grownBy (grownBy_setCell' _ (w.heap.size + 1 + 1 + 1 + 1) _) (fun r e => by injection e with e; omega))), rfl, (HB7.out.trans (HB6.out.mono HB7.out.size)).trans (hset.2 _ (by omega)), hset.1, HNO.out⟩
       | some y =>
        have hxy := hx y rfl
        subst hxy
        clear hx
        rw [show (some x).isSome = true from rfl]
        cases bb with
        | true =>
         by_cases hlt : x < q9
         ·have HNO : Hid (dpsts bs l q 0 = none) := by show _ = _; rw [HD9.out, hst]; simp only []; rw [if_pos (by simp [hlt])]
          have qlt : decide (x < q9) = true := decide_eq_true hlt
          clear hst hlt
          have r6 := HR6.out.ret.1
          have f6 := HR6.out.ret.2.2.1
          have c7 : (w6.setCell ⟨w.heap.size + 1 + 1 + 1, 0, none⟩ (.int .i64 0)).cell? ⟨w.heap.size + 1 + 1 + 1 + 1, 0, none⟩ = some (.bool false) := (World.cell?_setCell_far _ _ _ _ (by show w.heap.size + 1 + 1 + 1 ≠ w.heap.size + 1 + 1 + 1 + 1; omega)).trans HR6.out.ret.2.1
          have f7 : (w6.setCell ⟨w.heap.size + 1 + 1 + 1, 0, none⟩ (.int .i64 0)).frozen? ⟨w.heap.size + 1 + 1 + 1 + 1, 0, none⟩ = false := by rw [World.frozen?_setCell]; exact HR6.out.ret.2.2.2
          gi_wp2
          show KeepsFrom W.heap.size W' _ ∧ DIx (dpsts bs l q 0) w Code.ret k' _
          have hset := HR6.out.set (.int .i64 0) (.bool false)
          refine ⟨(KeepsFrom.of_grownBy (Below.grownRow HBX.out none) (fun _ e => by cases e)).trans ((KeepsFrom.of_grownBy (grownBy_setCell' w6 (w.heap.size + 1 + 1 + 1) _) (fun r e => by injection e with e; omega)).trans (KeepsFrom.of_grownBy (grownBy_setCell' _ (w.heap.size + 1 + 1 + 1 + 1) _) (fun r e => by injection e with e; omega))), rfl, (HB7.out.trans (HB6.out.mono HB7.out.size)).trans (hset.2 _ (by omega)), hset.1, HNO.out⟩
         ·have HYES : Hid (dpsts bs l q 0 = dpsts bs (restP l (k' + 1)) q (max m x)) := by show _ = _; rw [HD9.out, hst]; simp only []; rw [if_neg (by simp [hlt])]
          have qlt : decide (x < q9) = false := decide_eq_false hlt
          clear hst hlt
          have f11 : w6.frozen? ⟨w7.heap.size, 0, none⟩ = false := by simp [World.frozen?, HM6.out]
          have c11 : w6.cell? ⟨w7.heap.size, 0, none⟩ = some (.int .i64 m) := by rw [Lib.cell_of_heap HM6.out]; rfl
          gi_wp2
          show KeepsFrom W.heap.size W' _ ∧ KeepsB (fun g => g < w7.heap.size ∨ g = w7.heap.size + 1) W' _ ∧ DI bs l q w7 (k' + 1) _
          refine ⟨(KeepsFrom.of_grownBy (Below.grownRow HBX.out none) (fun _ e => by cases e)).trans (KeepsFrom.of_grownBy (grownBy_setCell' w6 w7.heap.size _) (fun r e => by injection e with e; omega)), (KeepsB.of_below HBX.out).trans (keepsB_set2 _ _ _ (fun h => by rcases h with h | h <;> omega)), max m x, HB6.out.setCell (p := ⟨w7.heap.size, 0, none⟩) (Nat.le_refl _) _, heap_setCell_same w6 w7.heap.size 0 _ 3 _ HM6.out, HYES.out, by simp; omega⟩
        | false =>
         have HYES : Hid (dpsts bs l q 0 = dpsts bs (restP l (k' + 1)) q (max m x)) := by show _ = _; rw [HD9.out, hst]; simp only []; rw [if_neg (by simp)]
         clear hst
         have f11 : w6.frozen? ⟨w7.heap.size, 0, none⟩ = false := by simp [World.frozen?, HM6.out]
         have c11 : w6.cell? ⟨w7.heap.size, 0, none⟩ = some (.int .i64 m) := by rw [Lib.cell_of_heap HM6.out]; rfl
         gi_wp2
         show KeepsFrom W.heap.size W' _ ∧ KeepsB (fun g => g < w7.heap.size ∨ g = w7.heap.size + 1) W' _ ∧ DI bs l q w7 (k' + 1) _
         refine ⟨(KeepsFrom.of_grownBy (Below.grownRow HBX.out none) (fun _ e => by cases e)).trans (KeepsFrom.of_grownBy (grownBy_setCell' w6 w7.heap.size _) (fun r e => by injection e with e; omega)), (KeepsB.of_below HBX.out).trans (keepsB_set2 _ _ _ (fun h => by rcases h with h | h <;> omega)), max m x, HB6.out.setCell (p := ⟨w7.heap.size, 0, none⟩) (Nat.le_refl _) _, heap_setCell_same w6 w7.heap.size 0 _ 3 _ HM6.out, HYES.out, by simp; omega⟩
    ·have q4 : (k == 4) = false := beq_eq_false_iff_ne.2 hk4
     have hdec : d0.dpst bs q = dpsts bs l q 0 := by rw [HD.out, if_neg (fun h => by rcases h with h | h; (· rw [hdd] at h; cases h); exact hk4 h.1)]
     have HDEC := Lib.hid hdec
     clear hdec hdd HD
     have ha5 : Below w5.heap.size w5 (w5.alloc (.cells #[.int .i64 0] 3)) := (Below.refl _ _).alloc (Nat.le_refl _) _
     have hXA := HX5.out.below ha5
     have y60 : (w5.alloc (.cells #[.int .i64 0] 3)).cell? ⟨w.heap.size + 1, 0, none⟩ = some (.int .i64 k) := by rw [Lib.cell_of_heap hXA.2.1]; rfl
     have y61 : (w5.alloc (.cells #[.int .i64 0] 3)).cell? ⟨w.heap.size + 1, 1, none⟩ = some (.string t) := by rw [Lib.cell_of_heap hXA.2.1]; rfl
     have y62 : (w5.alloc (.cells #[.int .i64 0] 3)).cell? ⟨w.heap.size + 1, 2, none⟩ = some (.slice mo ms.length mc) := by rw [Lib.cell_of_heap hXA.2.1]; rfl
     have y63 : (w5.alloc (.cells #[.int .i64 0] 3)).cell? ⟨w.heap.size + 1, 3, none⟩ = some (.slice lo l.length lc) := by rw [Lib.cell_of_heap hXA.2.1]; rfl
     have y64 : (w5.alloc (.cells #[.int .i64 0] 3)).cell? ⟨w.heap.size + 1, 4, none⟩ = some (.int .i64 p) := by rw [Lib.cell_of_heap hXA.2.1]; rfl
     clear hXA
     go_wp2_with fail
     refine (parts_any k t _ _ p rfl rfl _).mono ?_
     rintro e w9 ⟨rfl, rfl⟩
     clear y60 y61 y62 y63 y64
     go_wp2_with fail
     have hWs : ((w5.alloc (.cells #[.int .i64 0] 3)).alloc (.cells #[.int .i64 k, .string t, .slice mo ms.length mc, .slice lo l.length lc, .int .i64 p] 29)).heap.size = w5.heap.size + 1 + 1 := by simp
     have hWb : ((w5.alloc (.cells #[.int .i64 0] 3)).alloc (.cells #[.int .i64 k, .string t, .slice mo ms.length mc, .slice lo l.length lc, .int .i64 p] 29)).heap[w5.heap.size + 1]? = some (Obj.cells #[.int .i64 k, .string t, .slice mo ms.length mc, .slice lo l.length lc, .int .i64 p] 29 (0, 0)) := by have h := alloc_at (w5.alloc (.cells #[.int .i64 0] 3)) (.cells #[.int .i64 k, .string t, .slice mo ms.length mc, .slice lo l.length lc, .int .i64 p] 29); rw [World.size_alloc] at h; exact h
     have hWm : ((w5.alloc (.cells #[.int .i64 0] 3)).alloc (.cells #[.int .i64 k, .string t, .slice mo ms.length mc, .slice lo l.length lc, .int .i64 p] 29)).heap[w5.heap.size]? = some (Obj.cells #[.int .i64 0] 3 (0, 0)) := (Lib.alloc_old _ _ _ (by simp)).trans (alloc_at _ _)
     have hbW : Below w5.heap.size w5 ((w5.alloc (.cells #[.int .i64 0] 3)).alloc (.cells #[.int .i64 k, .string t, .slice mo ms.length mc, .slice lo l.length lc, .int .i64 p] 29)) := ha5.alloc (by simp) _
     obtain ⟨W, hW⟩ : ∃ W, W = (w5.alloc (.cells #[.int .i64 0] 3)).alloc (.cells #[.int .i64 k, .string t, .slice mo ms.length mc, .slice lo l.length lc, .int .i64 p] 29) := ⟨_, rfl⟩
     rw [← hW] at hWs hWb hWm hbW
     rw [← hW]
     have hLW : LAt (fun g => g < B) W (.slice lo l.length lc) l := HL5.out.keeps (keeps_low (hbW.mono (by omega)))
     obtain ⟨cf, hcf⟩ := CfAt.of hLW
     have HH : Hid (Hands Fence.wide 8 Try.prog 87 #[.pointer (some ⟨w5.heap.size + 1, 0, none⟩)] (partA cf l) (KeepsB (fun g => g < w5.heap.size ∨ g = w5.heap.size + 1)) (pix l).length W) := by
      have hl0 := HLEAF.out hk4
      rw [show (pix l).length = 0 by rw [hl0]; rfl]
      exact parts0_hands 8 (w5.heap.size + 1) k hk4 t _ _ p (partA cf l) W (by omega) hWb
     have h0 : DI bs l q w5 0 W := ⟨0, hbW, hWm, rest_zero (fun L => dpsts bs L q 0) (dpsts_dots bs q 0) l, by omega⟩
     have HCF := Lib.hid hcf
     have HBW := Lib.hid hbW
     clear hW hWb hWm hbW hLW hcf ha5
     refine (wpIn_wide (n := 9)).1 ?_
     refine wpIn_rangeFunc_count (F := Fence.wide) rfl (by decide) (gf := 87) (lb := #[.pointer (some ⟨w5.heap.size + 1, 0, none⟩)]) rfl trivial (enters_of Try.func87 (by kernel_rfl) rfl) HH.out (fun h k => h.trans k) (fun W' l' o o' _ hl ho _ => keepsB_putObj W' l' o o' hl ho)
      (Below.refl _ _) (fun k => partA_size cf l k) (DI bs l q w5) (DIx (dpsts bs l q 0) w) (DI.own (by omega)) (fun c => DIx.own (by omega)) h0
      (VAx 0 cf l (fun x9 x10 x23 => { tmps := #[.agg #[.slice to bs.length tc, .map (some bm)], .agg #[.int .i64 k, .string t, .slice mo ms.length mc, .slice lo l.length lc, .int .i64 p], .int .i64 q, .pointer (some ⟨w.heap.size, 0, none⟩), .pointer (some ⟨w.heap.size + 1, 0, none⟩), .pointer (some ⟨w.heap.size + 1 + 1, 0, none⟩), .pointer (some ⟨w.heap.size + 1 + 1 + 1, 0, none⟩), .pointer (some ⟨w.heap.size + 1 + 1 + 1 + 1, 0, none⟩), .int .i64 fq, .bool false, undef, .pointer (some ⟨w5.heap.size, 0, none⟩), x9, x10, undef, undef, undef, .tuple #[.int .i64 fq, .bool false], .pointer (some ⟨w.heap.size, 0, none⟩), .agg #[.slice to bs.length tc, .map (some bm)], .agg #[.int .i64 k, .string t, .slice mo ms.length mc, .slice lo l.length lc, .int .i64 p], .tuple #[.int .i64 fq, .bool false], .int .i64 fq, .bool false, .bool false, undef, undef, undef, undef, undef, undef, undef, undef, undef, undef, undef, undef, undef, undef, undef, .agg #[.int .i64 k, .string t, .slice mo ms.length mc, .slice lo l.length lc, .int .i64 p], .bool false, .bool false, .pointer (some ⟨w.heap.size + 1, 0, none⟩), .int .i64 k, .bool false, .bool false, undef, undef, undef, .bool false, .bool false, .agg #[.int .i64 k, .string t, .slice mo ms.length mc, .slice lo l.length lc, .int .i64 p], .func (.func 87) #[] #[.pointer (some ⟨w5.heap.size + 1, 0, none⟩)], x23, x10, undef, undef, undef, undef, undef, undef, undef, undef, undef, undef, undef, undef, undef, undef, undef, undef, undef, undef, undef, undef, undef, undef, undef, undef], defers := [] })) VAx.own ?assign ?body ?done ?stop
     case stop =>
      rintro D c k' W' hD _ ⟨rfl, hb, hr, hn⟩ hK
      have HBB := Lib.hid hb
      have HRR := Lib.hid hr
      clear hb hr
      refine wpIn_ret ?_
      refine ⟨by simp, .inl ⟨_, _, rfl, run_takeDeferred hK, ?_⟩⟩
      have hgD := grownBy_putObj' W' D (.deferred none)
      have hr2 := HRR.out.turn hgD (fun r e => by cases e; omega)
      refine ⟨.tuple #[.int .i64 0, .bool false], by simp [results, Try.f74, go_sem, hr2.ret.1, hr2.ret.2.1], (show RetDp _ _ _ _ from ⟨0, by rw [HDEC.out, hn]; rfl, fun x hx => (by rw [HDEC.out, hn] at hx; cases hx), below_turn9 HBB.out hgD HBB.out.size (fun r e => by cases e; omega)⟩)⟩
     case done =>
      rintro D W' hD ⟨m, hb, hm, hd9, hs9⟩ hK
      have HDN : Hid (dpsts bs l q 0 = some m) := by show _ = _; rw [hd9, rest_end, dpsts]
      have cm : W'.cell? ⟨w5.heap.size, 0, none⟩ = some (.int .i64 m) := by rw [Lib.cell_of_heap hm]; rfl
      have hr := HR5.out.below hb
      have HRR := Lib.hid hr
      have HBB := Lib.hid (HB5.out.trans (hb.mono HB5.out.size))
      have c7 : (W'.setCell ⟨w.heap.size + 1 + 1 + 1, 0, none⟩ (.int .i64 m)).cell? ⟨w.heap.size + 1 + 1 + 1 + 1, 0, none⟩ = some (.bool false) := (World.cell?_setCell_far _ _ _ _ (by show w.heap.size + 1 + 1 + 1 ≠ w.heap.size + 1 + 1 + 1 + 1; omega)).trans hr.ret.2.1
      have f7 : (W'.setCell ⟨w.heap.size + 1 + 1 + 1, 0, none⟩ (.int .i64 m)).frozen? ⟨w.heap.size + 1 + 1 + 1 + 1, 0, none⟩ = false := by rw [World.frozen?_setCell]; exact hr.ret.2.2.2
      have f6 := hr.ret.2.2.1
      have c6 := hr.ret.1
      have hDo := Array.getElem?_eq_some_iff.1 hK
      clear hb hm hd9 hr
      go_wp2_with fail
      have hset := HRR.out.set (.int .i64 m) (.bool true)
      have hK2 : ((W'.setCell ⟨w.heap.size + 1 + 1 + 1, 0, none⟩ (.int .i64 m)).setCell ⟨w.heap.size + 1 + 1 + 1 + 1, 0, none⟩ (.bool true)).heap[D]? = some (.deferred (some [])) := by
       rw [heap_setCell_other _ _ _ _ (by show D ≠ w.heap.size + 1 + 1 + 1 + 1; omega), heap_setCell_other _ _ _ _ (by show D ≠ w.heap.size + 1 + 1 + 1; omega)]; exact hK
      refine ⟨by simp, .inl ⟨_, _, rfl, run_takeDeferred hK2, ?_⟩⟩
      have hgD := grownBy_putObj' ((W'.setCell ⟨w.heap.size + 1 + 1 + 1, 0, none⟩ (.int .i64 m)).setCell ⟨w.heap.size + 1 + 1 + 1 + 1, 0, none⟩ (.bool true)) D (.deferred none)
      have hr2 := hset.1.turn hgD (fun r e => by cases e; omega)
      have hbb := HBB.out.trans (hset.2 _ (Nat.le_refl _))
      refine ⟨.tuple #[.int .i64 m, .bool true], by simp [results, Try.f74, go_sem, hr2.ret.1, hr2.ret.2.1], (show RetDp _ _ _ _ from ⟨m, by rw [HDEC.out, HDN.out]; rfl, fun x hx => (by rw [HDEC.out, HDN.out] at hx; exact Option.some.inj hx), below_turn9 hbb hgD hbb.size (fun r e => by cases e; omega)⟩)⟩
     case assign =>
      intro l' k' W' K hk hi hK
      have hjl := pix_lt hk
      have hpa := partA_pc (cf := cf) hk
      have hpc : pc cf l k' = cf ((pix l)[k']) := by unfold pc; rw [List.getElem?_eq_getElem hk, Option.getD_some]
      obtain ⟨k5, t5, mo5, mn5, mc5, lo5, ln5, lc5, p5, hcs⟩ := At_slices (HCF.out _ hjl).1
      rw [hpa, hpc, hcs]
      gi_wp2
      refine hK _ _ (keepsFrom_cells (World.grownBy_alloc _ _ none) (fun r e => by cases e)) (KeepsB.of_below ((Below.refl _ _).alloc (Nat.le_refl _) _)) ((DI.own (C := W.heap.size) (by omega)) k' W' _ none hi (World.grownBy_alloc _ _ none) (fun r e => by cases e)) ?_
      refine ⟨W'.heap.size, ?_, ?_, ?_⟩
      ·exact Nat.zero_le _
      ·rw [hpc, hcs]; exact alloc_at _ _
      ·rw [hpc, hcs]
     case body =>
      intro l' k' a' W' hk hi hax
      obtain ⟨Bx, _, hbx, rfl⟩ := hax
      obtain ⟨m, hb, hm, hd9, hs9⟩ := hi
      have hjl := pix_lt hk
      have hpc : pc cf l k' = cf ((pix l)[k']) := by unfold pc; rw [List.getElem?_eq_getElem hk, Option.getD_some]
      have hsg := size_get l _ hjl
      have hwfp := wfs_get HWF.out _ hjl
      have hpb : nxtDots (l.drop ((pix l)[k'] + 1)) = pb l k' := by unfold pb; rw [List.getElem?_eq_getElem hk, Option.getD_some]
      have hst := dpsts_cons bs (l[(pix l)[k']]) (l.drop ((pix l)[k'] + 1)) q m
      rw [← rest_cons hk, if_neg (by rw [pix_dots hk]; decide), hpb] at hst
      have hnx := fun m' => rest_next (fun L => dpsts bs L q m') (dpsts_dots bs q m') l k' hk
      simp only [hnx] at hst
      have hdat := (HCF.out _ hjl).1
      rw [← hpc] at hdat
      obtain ⟨k5, t5, mo5, mn5, mc5, lo5, ln5, lc5, p5, hcs⟩ := At_slices hdat
      rw [hcs] at hdat hbx
      obtain ⟨dp, hdp⟩ : ∃ d, d = l[(pix l)[k']] := ⟨_, rfl⟩
      rw [← hdp] at hdat hst hsg hwfp
      obtain ⟨bb, hbb⟩ : ∃ b, b = pb l k' := ⟨_, rfl⟩
      rw [← hbb] at hst
      rw [hcs, ← hbb]
      obtain ⟨q9, hq9⟩ : ∃ q9, q9 = (if bb = true then q + 1 else q) := ⟨_, rfl⟩
      rw [← hq9] at hst
      have F50 : ∀ w : World, Calls Try.prog 72 #[.int .i64 q, .bool bb] w fun e w' => e = .returned (.int .i64 q9) ∧ w = w' := fun w => by rw [hq9]; exact inner_any q bb (by omega) (by omega) w
      have hqq : 0 ≤ q9 ∧ q9 + dp.size ≤ 9000 := by rw [hq9]; split <;> omega
      have hBX5 := HX5.out.below hb
      have c0 : W'.cell? ⟨w.heap.size, 0, none⟩ = some (.slice to bs.length tc) := by rw [Lib.cell_of_heap hBX5.1]; rfl
      have c1 : W'.cell? ⟨w.heap.size, 1, none⟩ = some (.map (some bm)) := by rw [Lib.cell_of_heap hBX5.1]; rfl
      have c2 : W'.cell? ⟨w.heap.size + 1 + 1, 0, none⟩ = some (.int .i64 q) := by rw [Lib.cell_of_heap hBX5.2.2]; rfl
      have x0 : W'.cell? ⟨Bx, 0, none⟩ = some (.int .i64 k5) := by rw [Lib.cell_of_heap hbx]; rfl
      have x1 : W'.cell? ⟨Bx, 1, none⟩ = some (.string t5) := by rw [Lib.cell_of_heap hbx]; rfl
      have x2 : W'.cell? ⟨Bx, 2, none⟩ = some (.slice mo5 mn5 mc5) := by rw [Lib.cell_of_heap hbx]; rfl
      have x3 : W'.cell? ⟨Bx, 3, none⟩ = some (.slice lo5 ln5 lc5) := by rw [Lib.cell_of_heap hbx]; rfl
      have x4 : W'.cell? ⟨Bx, 4, none⟩ = some (.int .i64 p5) := by rw [Lib.cell_of_heap hbx]; rfl
      have hdatW : Dt.At (fun g => g < B) W' dp #[.int .i64 k5, .string t5, .slice mo5 mn5 mc5, .slice lo5 ln5 lc5, .int .i64 p5] := Dt.At.keeps (keeps_two hb HBW.out (by omega)) _ _ hdat
      have hpsW := HPS5.out.keeps (KeepsB.of_below hb)
      have htbW := HT5.out.kept (Below.grownRow hb none) (fun r e => by cases e)
      have F74 := Lib.hid (IH.out dp (by omega) hwfp B _ bs _ bm q9 W' (by omega) hdatW hpsW htbW hbl HBZ.out hqq.1 hqq.2)
      have F5 := Lib.hid F50
      have HST := Lib.hid hst
      have HB9 := Lib.hid hb
      have HM := Lib.hid hm
      have HD9 := Lib.hid hd9
      clear hb hm hd9 hst hjl hpc hsg hwfp hpb hnx hdat hcs hdp hbb hq9 F50 hBX5 hbx hdatW hpsW htbW
      refine wpIn_block ?_
      gi_wp2
      refine ⟨trivial, CallsIn.inRound l' (callsIn_wide.2 (F5.out W')) |>.mono ?_⟩
      rintro e w5' ⟨rfl, rfl⟩
      gi_wp2
      refine ⟨trivial, CallsIn.inRound l' (callsIn_wide.2 F74.out) |>.mono ?_⟩
      rintro e w6 ⟨x, rfl, hx, hb6⟩
      clear c0 c1 c2 x0 x1 x2 x3 x4 F74
      have hs6 := hb6.size
      have HBX := Lib.hid hb6
      have HB6 := Lib.hid (HB9.out.trans (hb6.mono HB9.out.size))
      have HR6 := Lib.hid (HR5.out.below HB6.out)
      have HM6 : Hid (w6.heap[w5.heap.size]? = some (Obj.cells #[.int .i64 m] 3 (0, 0))) := (hb6.block _ (Array.getElem?_eq_some_iff.1 HM.out).1).trans HM.out
      have hst := HST.out
      obtain ⟨dv, hdv⟩ : ∃ y, y = dp.dpst bs q9 := ⟨_, rfl⟩
      rw [← hdv] at hst hx ⊢
      clear HST hb6 hdv HB9 HM
      cases dv with
      | none =>
       have HNO : Hid (dpsts bs l q 0 = none) := by show _ = _; rw [HD9.out, hst]
       clear hst hx
       rw [show (none : Option Int).isSome = false from rfl]
       have r6 := HR6.out.ret.1
       have f6 := HR6.out.ret.2.2.1
       have c7 : (w6.setCell ⟨w.heap.size + 1 + 1 + 1, 0, none⟩ (.int .i64 0)).cell? ⟨w.heap.size + 1 + 1 + 1 + 1, 0, none⟩ = some (.bool false) := (World.cell?_setCell_far _ _ _ _ (by show w.heap.size + 1 + 1 + 1 ≠ w.heap.size + 1 + 1 + 1 + 1; omega)).trans HR6.out.ret.2.1
       have f7 : (w6.setCell ⟨w.heap.size + 1 + 1 + 1, 0, none⟩ (.int .i64 0)).frozen? ⟨w.heap.size + 1 + 1 + 1 + 1, 0, none⟩ = false := by rw [World.frozen?_setCell]; exact HR6.out.ret.2.2.2
       gi_wp2
       show KeepsFrom W.heap.size W' _ ∧ DIx (dpsts bs l q 0) w Code.ret k' _
       have hset := HR6.out.set (.int .i64 0) (.bool false)
       refine ⟨(KeepsFrom.of_grownBy (Below.grownRow HBX.out none) (fun _ e => by cases e)).trans ((KeepsFrom.of_grownBy (grownBy_setCell' w6 (w.heap.size + 1 + 1 + 1) _) (fun r e => by injection e with e; omega)).trans (KeepsFrom.of_grownBy (grownBy_setCell' _ (w.heap.size + 1 + 1 + 1 + 1) _) (fun r e => by injection e with e; omega))), rfl, (HB5.out.trans (HB6.out.mono HB5.out.size)).trans (hset.2 _ (by omega)), hset.1, HNO.out⟩
      | some y =>
       have hxy := hx y rfl
       subst hxy
       clear hx
       rw [show (some x).isSome = true from rfl]
       cases bb with
       | true =>
        by_cases hlt : x < q9
        ·have HNO : Hid (dpsts bs l q 0 = none) := by show _ = _; rw [HD9.out, hst]; simp only []; rw [if_pos (by simp [hlt])]
         have qlt : decide (x < q9) = true := decide_eq_true hlt
         clear hst hlt
         have r6 := HR6.out.ret.1
         have f6 := HR6.out.ret.2.2.1
         have c7 : (w6.setCell ⟨w.heap.size + 1 + 1 + 1, 0, none⟩ (.int .i64 0)).cell? ⟨w.heap.size + 1 + 1 + 1 + 1, 0, none⟩ = some (.bool false) := (World.cell?_setCell_far _ _ _ _ (by show w.heap.size + 1 + 1 + 1 ≠ w.heap.size + 1 + 1 + 1 + 1; omega)).trans HR6.out.ret.2.1
         have f7 : (w6.setCell ⟨w.heap.size + 1 + 1 + 1, 0, none⟩ (.int .i64 0)).frozen? ⟨w.heap.size + 1 + 1 + 1 + 1, 0, none⟩ = false := by rw [World.frozen?_setCell]; exact HR6.out.ret.2.2.2
         gi_wp2
         show KeepsFrom W.heap.size W' _ ∧ DIx (dpsts bs l q 0) w Code.ret k' _
         have hset := HR6.out.set (.int .i64 0) (.bool false)
         refine ⟨(KeepsFrom.of_grownBy (Below.grownRow HBX.out none) (fun _ e => by cases e)).trans ((KeepsFrom.of_grownBy (grownBy_setCell' w6 (w.heap.size + 1 + 1 + 1) _) (fun r e => by injection e with e; omega)).trans (KeepsFrom.of_grownBy (grownBy_setCell' _ (w.heap.size + 1 + 1 + 1 + 1) _) (fun r e => by injection e with e; omega))), rfl, (HB5.out.trans (HB6.out.mono HB5.out.size)).trans (hset.2 _ (by omega)), hset.1, HNO.out⟩
        ·have HYES : Hid (dpsts bs l q 0 = dpsts bs (restP l (k' + 1)) q (max m x)) := by show _ = _; rw [HD9.out, hst]; simp only []; rw [if_neg (by simp [hlt])]
         have qlt : decide (x < q9) = false := decide_eq_false hlt
         clear hst hlt
         have f11 : w6.frozen? ⟨w5.heap.size, 0, none⟩ = false := by simp [World.frozen?, HM6.out]
         have c11 : w6.cell? ⟨w5.heap.size, 0, none⟩ = some (.int .i64 m) := by rw [Lib.cell_of_heap HM6.out]; rfl
         gi_wp2
         show KeepsFrom W.heap.size W' _ ∧ KeepsB (fun g => g < w5.heap.size ∨ g = w5.heap.size + 1) W' _ ∧ DI bs l q w5 (k' + 1) _
         refine ⟨(KeepsFrom.of_grownBy (Below.grownRow HBX.out none) (fun _ e => by cases e)).trans (KeepsFrom.of_grownBy (grownBy_setCell' w6 w5.heap.size _) (fun r e => by injection e with e; omega)), (KeepsB.of_below HBX.out).trans (keepsB_set2 _ _ _ (fun h => by rcases h with h | h <;> omega)), max m x, HB6.out.setCell (p := ⟨w5.heap.size, 0, none⟩) (Nat.le_refl _) _, heap_setCell_same w6 w5.heap.size 0 _ 3 _ HM6.out, HYES.out, by simp; omega⟩
       | false =>
        have HYES : Hid (dpsts bs l q 0 = dpsts bs (restP l (k' + 1)) q (max m x)) := by show _ = _; rw [HD9.out, hst]; simp only []; rw [if_neg (by simp)]
        clear hst
        have f11 : w6.frozen? ⟨w5.heap.size, 0, none⟩ = false := by simp [World.frozen?, HM6.out]
        have c11 : w6.cell? ⟨w5.heap.size, 0, none⟩ = some (.int .i64 m) := by rw [Lib.cell_of_heap HM6.out]; rfl
        gi_wp2
        show KeepsFrom W.heap.size W' _ ∧ KeepsB (fun g => g < w5.heap.size ∨ g = w5.heap.size + 1) W' _ ∧ DI bs l q w5 (k' + 1) _
        refine ⟨(KeepsFrom.of_grownBy (Below.grownRow HBX.out none) (fun _ e => by cases e)).trans (KeepsFrom.of_grownBy (grownBy_setCell' w6 w5.heap.size _) (fun r e => by injection e with e; omega)), (KeepsB.of_below HBX.out).trans (keepsB_set2 _ _ _ (fun h => by rcases h with h | h <;> omega)), max m x, HB6.out.setCell (p := ⟨w5.heap.size, 0, none⟩) (Nat.le_refl _) _, heap_setCell_same w6 w5.heap.size 0 _ 3 _ HM6.out, HYES.out, by simp; omega⟩

  ·skip
   have hget : (bs[i]?).getD bNone = bs[i] := by rw [List.getElem?_eq_getElem hib, Option.getD_some]
   obtain ⟨qi, hqi⟩ : ∃ x, x = bs[i].deep := ⟨_, rfl⟩
   have HD : Hid (d0.dpst bs q = if qi = 0 ∨ qi = q then some qi else none) := by
    show _ = _
    rw [HP.out, hfi]
    simp only [hget, hqi]
   have hfq2 : fq = i := by rw [HFQ.out, hfi]; rfl
   have qsome : (fpos bs d0).isSome = true := by rw [hfi]; rfl
   subst hfq2
   rw [qsome]
   obtain ⟨g, o, arr, fz, cs, elo, hSg, hgg, hc, hat⟩ := HPS3.out.get fq hib
   subst elo
   obtain ⟨m1, l1, m2, l2, lr, rfl, _⟩ := BdPAt_twelve hat
   have c5 : w3.cell? ⟨g, o + fq * 12 + 5, none⟩ = some (.int .i64 qi) := by rw [hqi]; exact hc 5 (by decide)
   have z0 : w3.cell? ⟨w.heap.size, 0, none⟩ = some (.slice (some ⟨g, o, none⟩) bs.length tc) := by rw [Lib.cell_of_heap HX3.out.1]; rfl
   have z2 : w3.cell? ⟨w.heap.size + 1 + 1, 0, none⟩ = some (.int .i64 q) := by rw [Lib.cell_of_heap HX3.out.2.2]; rfl
   clear hc hat hgg hSg hqi hget hfi qsome
   go_upto_region 4 with fail
   have hdrw : Below w3.heap.size w3 w3.drew := (Below.refl _ _).drew
   have hr4 := HR3.out.below hdrw
   have HB4 := Lib.hid (HB3.out.trans (hdrw.mono HB3.out.size))
   have z24 : w3.drew.cell? ⟨w.heap.size + 1 + 1, 0, none⟩ = some (.int .i64 q) := z2
   clear z2 z0 c5 hdrw
   by_cases h0 : qi = 0
   ·have hdec : (if qi = 0 ∨ qi = q then some qi else none) = some qi := if_pos (.inl h0)
    have q0 : (qi == 0) = true := beq_iff_eq.2 h0
    clear h0
    refine wp_region_noPanic ?_
    refine wp_region_held_drew (S := fun w' => w'.cell? ⟨w.heap.size + 1 + 1, 0, none⟩ = some (.int .i64 q)) (by kernel_rfl) z24 (fun hHeld => ?_)
    generalize w3.drew = V0 at hHeld hr4 HB4 ⊢
    refine qts [0, 1, 2, 3, 4, 5, 6, 7] hHeld ?_
    iterate 2 (refine qtc (v := ?_) rfl rfl (fun w' hw' => ?_) ?_; rotate_left; (focus (go_simp; try with_reducible rfl)); simp only [zt,zs,zz,Act.put,zi,zy,zx])
    iterate 2 (refine qtc (v := .bool true) rfl rfl (fun w' hw' => ?_) ?_; (focus (go_simp)); simp only [zt,zs,zz,Act.put,zi,zy,zx])
    iterate 3 (refine qtz rfl rfl ?_; simp only [zt,zs,zz,Act.put,zi,zy,zx])
    (refine qtc (v := .bool true) rfl rfl (fun w' hw' => ?_) ?_; (focus (go_simp)); simp only [zt,zs,zz,Act.put,zi,zy,zx])
    refine qtn ?_
    simp only [zt,zs,zz,Act.put,zi,zy,zx,qzl,qzn,qza,Nat.reduceAdd,Nat.reduceSub]
    refine wpAnyH_ready (rs := [8]) (by kernel_rfl) (by simp) ?_
    refine (AllReadyH.cons rfl (fun K hK => ?_) AllReadyH.nil)
    have c6 := hr4.ret.1
    have f6 := hr4.ret.2.2.1
    go_simp
    have hS8 : (V0.setCell ⟨w.heap.size + 1 + 1 + 1, 0, none⟩ (.int .i64 qi)).cell? ⟨w.heap.size + 1 + 1, 0, none⟩ = some (.int .i64 q) := (World.cell?_setCell_far _ _ _ _ (by show w.heap.size + 1 + 1 + 1 ≠ w.heap.size + 1 + 1; omega)).trans hHeld
    refine hK.out _ _ hS8 (fun hHeld => ?_)
    clear c6 f6 hS8
    clear hK K
    try simp only [zt,zs,zz,Act.put,zi,zy,zx]
    refine wpAnyH_ready (rs := [9]) (by kernel_rfl) (by simp) ?_
    refine (AllReadyH.cons rfl (fun K hK => ?_) AllReadyH.nil)
    have hset := hr4.set (.int .i64 qi) (.bool true)
    have c7 : (V0.setCell ⟨w.heap.size + 1 + 1 + 1, 0, none⟩ (.int .i64 qi)).cell? ⟨w.heap.size + 1 + 1 + 1 + 1, 0, none⟩ = some (.bool false) := (World.cell?_setCell_far _ _ _ _ (by show w.heap.size + 1 + 1 + 1 ≠ w.heap.size + 1 + 1 + 1 + 1; omega)).trans hr4.ret.2.1
    have f7 : (V0.setCell ⟨w.heap.size + 1 + 1 + 1, 0, none⟩ (.int .i64 qi)).frozen? ⟨w.heap.size + 1 + 1 + 1 + 1, 0, none⟩ = false := by rw [World.frozen?_setCell]; exact hr4.ret.2.2.2
    go_simp
    have hS9 : ((V0.setCell ⟨w.heap.size + 1 + 1 + 1, 0, none⟩ (.int .i64 qi)).setCell ⟨w.heap.size + 1 + 1 + 1 + 1, 0, none⟩ (.bool true)).cell? ⟨w.heap.size + 1 + 1, 0, none⟩ = some (.int .i64 q) := (World.cell?_setCell_far _ _ _ _ (by show w.heap.size + 1 + 1 + 1 + 1 ≠ w.heap.size + 1 + 1; omega)).trans hHeld
    refine hK.out _ _ hS9 (fun hHeld => ?_)
    have HRR := Lib.hid hset.1
    have HBF := Lib.hid (HB4.out.trans (hset.2 _ (Nat.le_refl _)))
    clear c7 f7 hS9 hset
    clear hK K
    try simp only [zt,zs,zz,Act.put,zi,zy,zx]
    refine wpAnyH_done (by kernel_rfl) ?_ _
    refine NoPanic.normal ?_
    clear hHeld
    go_wp2_with fail
    refine ⟨.tuple #[.int .i64 qi, .bool true], by simp [results, Try.f74, go_sem, HRR.out.ret.1, HRR.out.ret.2.1], (show RetDp _ _ _ _ from ⟨qi, by rw [HD.out, hdec]; rfl, fun x hx => (by rw [HD.out, hdec] at hx; exact Option.some.inj hx), HBF.out⟩)⟩
   ·by_cases h1 : qi = q
    ·have hdec : (if qi = 0 ∨ qi = q then some qi else none) = some qi := if_pos (.inr h1)
     have q0 : (qi == 0) = false := beq_eq_false_iff_ne.2 h0
     have q1 : (qi == q) = true := beq_iff_eq.2 h1
     clear h0 h1
     refine wp_region_noPanic ?_
     refine wp_region_held_drew (S := fun w' => w'.cell? ⟨w.heap.size + 1 + 1, 0, none⟩ = some (.int .i64 q)) (by kernel_rfl) z24 (fun hHeld => ?_)
     generalize w3.drew = V0 at hHeld hr4 HB4 ⊢
     refine qts [0, 1, 2, 3, 4, 5, 6, 7] hHeld ?_
     iterate 2 (refine qtc (v := ?_) rfl rfl (fun w' hw' => ?_) ?_; rotate_left; (focus (go_simp; try with_reducible rfl)); simp only [zt,zs,zz,Act.put,zi,zy,zx])
     iterate 2 (refine qtc (v := .bool false) rfl rfl (fun w' hw' => ?_) ?_; (focus (go_simp)); simp only [zt,zs,zz,Act.put,zi,zy,zx])
     (refine qtc (v := ?_) rfl rfl (fun w' hw' => ?_) ?_; rotate_left; (focus (go_simp; try with_reducible rfl)); simp only [zt,zs,zz,Act.put,zi,zy,zx])
     (refine qtc (v := ?_) rfl rfl (fun w' hw' => ?_) ?_; rotate_left; (focus ((have HL := hw'; go_simp); try with_reducible rfl)); simp only [zt,zs,zz,Act.put,zi,zy,zx])
     iterate 2 (refine qtc (v := .bool true) rfl rfl (fun w' hw' => ?_) ?_; (focus (go_simp)); simp only [zt,zs,zz,Act.put,zi,zy,zx])
     refine qtn ?_
     simp only [zt,zs,zz,Act.put,zi,zy,zx,qzl,qzn,qza,Nat.reduceAdd,Nat.reduceSub]
     refine wpAnyH_ready (rs := [8]) (by kernel_rfl) (by simp) ?_
     refine (AllReadyH.cons rfl (fun K hK => ?_) AllReadyH.nil)
     have c6 := hr4.ret.1
     have f6 := hr4.ret.2.2.1
     go_simp
     have hS8 : (V0.setCell ⟨w.heap.size + 1 + 1 + 1, 0, none⟩ (.int .i64 qi)).cell? ⟨w.heap.size + 1 + 1, 0, none⟩ = some (.int .i64 q) := (World.cell?_setCell_far _ _ _ _ (by show w.heap.size + 1 + 1 + 1 ≠ w.heap.size + 1 + 1; omega)).trans hHeld
     refine hK.out _ _ hS8 (fun hHeld => ?_)
     clear c6 f6 hS8
     clear hK K
     try simp only [zt,zs,zz,Act.put,zi,zy,zx]
     refine wpAnyH_ready (rs := [9]) (by kernel_rfl) (by simp) ?_
     refine (AllReadyH.cons rfl (fun K hK => ?_) AllReadyH.nil)
     have hset := hr4.set (.int .i64 qi) (.bool true)
     have c7 : (V0.setCell ⟨w.heap.size + 1 + 1 + 1, 0, none⟩ (.int .i64 qi)).cell? ⟨w.heap.size + 1 + 1 + 1 + 1, 0, none⟩ = some (.bool false) := (World.cell?_setCell_far _ _ _ _ (by show w.heap.size + 1 + 1 + 1 ≠ w.heap.size + 1 + 1 + 1 + 1; omega)).trans hr4.ret.2.1
     have f7 : (V0.setCell ⟨w.heap.size + 1 + 1 + 1, 0, none⟩ (.int .i64 qi)).frozen? ⟨w.heap.size + 1 + 1 + 1 + 1, 0, none⟩ = false := by rw [World.frozen?_setCell]; exact hr4.ret.2.2.2
     go_simp
     have hS9 : ((V0.setCell ⟨w.heap.size + 1 + 1 + 1, 0, none⟩ (.int .i64 qi)).setCell ⟨w.heap.size + 1 + 1 + 1 + 1, 0, none⟩ (.bool true)).cell? ⟨w.heap.size + 1 + 1, 0, none⟩ = some (.int .i64 q) := (World.cell?_setCell_far _ _ _ _ (by show w.heap.size + 1 + 1 + 1 + 1 ≠ w.heap.size + 1 + 1; omega)).trans hHeld
     refine hK.out _ _ hS9 (fun hHeld => ?_)
     have HRR := Lib.hid hset.1
     have HBF := Lib.hid (HB4.out.trans (hset.2 _ (Nat.le_refl _)))
     clear c7 f7 hS9 hset
     clear hK K
     try simp only [zt,zs,zz,Act.put,zi,zy,zx]
     refine wpAnyH_done (by kernel_rfl) ?_ _
     refine NoPanic.normal ?_
     clear hHeld
     go_wp2_with fail
     refine ⟨.tuple #[.int .i64 qi, .bool true], by simp [results, Try.f74, go_sem, HRR.out.ret.1, HRR.out.ret.2.1], (show RetDp _ _ _ _ from ⟨qi, by rw [HD.out, hdec]; rfl, fun x hx => (by rw [HD.out, hdec] at hx; exact Option.some.inj hx), HBF.out⟩)⟩
    ·have hdec : (if qi = 0 ∨ qi = q then some qi else none) = none := if_neg (fun h => h.elim h0 h1)
     have q0 : (qi == 0) = false := beq_eq_false_iff_ne.2 h0
     have q1 : (qi == q) = false := beq_eq_false_iff_ne.2 h1
     clear h0 h1
     refine wp_region_noPanic ?_
     refine wp_region_held_drew (S := fun w' => w'.cell? ⟨w.heap.size + 1 + 1, 0, none⟩ = some (.int .i64 q)) (by kernel_rfl) z24 (fun hHeld => ?_)
     generalize w3.drew = V0 at hHeld hr4 HB4 ⊢
     refine qts [0, 1, 2, 3, 4, 5, 6, 7] hHeld ?_
     iterate 2 (refine qtc (v := ?_) rfl rfl (fun w' hw' => ?_) ?_; rotate_left; (focus (go_simp; try with_reducible rfl)); simp only [zt,zs,zz,Act.put,zi,zy,zx])
     iterate 2 (refine qtc (v := .bool false) rfl rfl (fun w' hw' => ?_) ?_; (focus (go_simp)); simp only [zt,zs,zz,Act.put,zi,zy,zx])
     (refine qtc (v := ?_) rfl rfl (fun w' hw' => ?_) ?_; rotate_left; (focus (go_simp; try with_reducible rfl)); simp only [zt,zs,zz,Act.put,zi,zy,zx])
     (refine qtc (v := ?_) rfl rfl (fun w' hw' => ?_) ?_; rotate_left; (focus ((have HL := hw'; go_simp); try with_reducible rfl)); simp only [zt,zs,zz,Act.put,zi,zy,zx])
     iterate 2 (refine qtc (v := .bool false) rfl rfl (fun w' hw' => ?_) ?_; (focus (go_simp)); simp only [zt,zs,zz,Act.put,zi,zy,zx])
     refine qtn ?_
     simp only [zt,zs,zz,Act.put,zi,zy,zx,qzl,qzn,qza,Nat.reduceAdd,Nat.reduceSub]
     refine wpAnyH_ready (rs := [8]) (by kernel_rfl) (by simp) ?_
     refine (AllReadyH.cons rfl (fun K hK => ?_) AllReadyH.nil)
     have c6 := hr4.ret.1
     have f6 := hr4.ret.2.2.1
     go_simp
     have hS8 : (V0.setCell ⟨w.heap.size + 1 + 1 + 1, 0, none⟩ (.int .i64 qi)).cell? ⟨w.heap.size + 1 + 1, 0, none⟩ = some (.int .i64 q) := (World.cell?_setCell_far _ _ _ _ (by show w.heap.size + 1 + 1 + 1 ≠ w.heap.size + 1 + 1; omega)).trans hHeld
     refine hK.out _ _ hS8 (fun hHeld => ?_)
     clear c6 f6 hS8
     clear hK K
     try simp only [zt,zs,zz,Act.put,zi,zy,zx]
     refine wpAnyH_ready (rs := [9]) (by kernel_rfl) (by simp) ?_
     refine (AllReadyH.cons rfl (fun K hK => ?_) AllReadyH.nil)
     have hset := hr4.set (.int .i64 qi) (.bool false)
     have c7 : (V0.setCell ⟨w.heap.size + 1 + 1 + 1, 0, none⟩ (.int .i64 qi)).cell? ⟨w.heap.size + 1 + 1 + 1 + 1, 0, none⟩ = some (.bool false) := (World.cell?_setCell_far _ _ _ _ (by show w.heap.size + 1 + 1 + 1 ≠ w.heap.size + 1 + 1 + 1 + 1; omega)).trans hr4.ret.2.1
     have f7 : (V0.setCell ⟨w.heap.size + 1 + 1 + 1, 0, none⟩ (.int .i64 qi)).frozen? ⟨w.heap.size + 1 + 1 + 1 + 1, 0, none⟩ = false := by rw [World.frozen?_setCell]; exact hr4.ret.2.2.2
     go_simp
     have hS9 : ((V0.setCell ⟨w.heap.size + 1 + 1 + 1, 0, none⟩ (.int .i64 qi)).setCell ⟨w.heap.size + 1 + 1 + 1 + 1, 0, none⟩ (.bool false)).cell? ⟨w.heap.size + 1 + 1, 0, none⟩ = some (.int .i64 q) := (World.cell?_setCell_far _ _ _ _ (by show w.heap.size + 1 + 1 + 1 + 1 ≠ w.heap.size + 1 + 1; omega)).trans hHeld
     refine hK.out _ _ hS9 (fun hHeld => ?_)
     have HRR := Lib.hid hset.1
     have HBF := Lib.hid (HB4.out.trans (hset.2 _ (Nat.le_refl _)))
     clear c7 f7 hS9 hset
     clear hK K
     try simp only [zt,zs,zz,Act.put,zi,zy,zx]
     refine wpAnyH_done (by kernel_rfl) ?_ _
     refine NoPanic.normal ?_
     clear hHeld
     go_wp2_with fail
     refine ⟨.tuple #[.int .i64 qi, .bool false], by simp [results, Try.f74, go_sem, HRR.out.ret.1, HRR.out.ret.2.1], (show RetDp _ _ _ _ from ⟨qi, by rw [HD.out, hdec]; rfl, fun x hx => (by rw [HD.out, hdec] at hx; cases hx), HBF.out⟩)⟩
end Go.Proofs.Ytecljchifebljaa
