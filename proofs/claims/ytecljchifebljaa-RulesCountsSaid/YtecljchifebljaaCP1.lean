/- Rules: the program's copied. -/
import Derived.Test.YtecljchifebljaaYAA
import Derived.Test.YtecljchifebljaaYAC
import Derived.Test.YtecljchifebljaaCP0
set_option linter.unusedVariables false
set_option linter.unusedSimpArgs false
namespace Go.Proofs.Ytecljchifebljaa
open Go Go.RowKit
attribute [local go_sem] Oper.semAt_some
/-- A row of data, its first j copied (to blocks from B on), the others as they were (in blocks below A). -/
def HalfD (A B : Nat) (l : List Dt) (lv : Value) (j : Nat) (W : World) : Prop :=
 (lv = .slice none 0 0 ∧ l = []) ∨ ∃ g cap cur, lv = .slice (some ⟨g, 0, none⟩) l.length cap ∧ B ≤ g ∧ W.heap[g]? = some (Obj.cells cur 29 (0, 0)) ∧ l.length * 5 ≤ cur.size ∧ l.length ≤ cap ∧
  ∀ i (h : i < l.length), ∃ cs : Array Value, cs.size = 5 ∧ (∀ t, t < 5 → cur[5 * i + t]? = cs[t]?) ∧ (i < j → Dt.At (fun x => B ≤ x ∧ x ≠ g) W l[i] cs) ∧ (j ≤ i → Dt.At (fun x => x < A) W l[i] cs)
theorem OwnDI.half {A B B9 : Nat} {l : List Dt} {lv : Value} {W : World} (h : OwnDI (fun x => x < A) B9 W lv l) (hB : B ≤ B9) : HalfD A B l lv 0 W := by
 obtain ⟨xs, hown, hd⟩ := h
 rcases hown.2 with ⟨rfl, hz⟩ | ⟨g, cap, cur, rfl, hbg, hg, hnc, hcm, hcs, htake⟩
 ·exact .inl ⟨rfl, List.length_eq_zero_iff.1 hz⟩
 ·refine .inr ⟨g, cap, cur, rfl, by omega, hg, by rw [hcs]; exact Nat.mul_le_mul_right 5 hnc, hnc, fun i hi => ?_⟩
  obtain ⟨cs, h5, h1, h2⟩ := hd i hi
  refine ⟨cs, h5, fun t ht => ?_, fun h => absurd h (by omega), fun _ => h2⟩
  rw [← h1 t ht, ← htake, List.getElem?_take, if_pos (by omega)]; simp
theorem HalfD.form {A B : Nat} {l : List Dt} {lv : Value} {j : Nat} {W : World} (h : HalfD A B l lv j W) : ∃ ao c, lv = .slice ao l.length c := by
 rcases h with ⟨rfl, rfl⟩ | ⟨g, cap, cur, rfl, _⟩
 ·exact ⟨none, 0, rfl⟩
 ·exact ⟨_, _, rfl⟩
theorem HalfD.below {A B : Nat} {l : List Dt} {lv : Value} {j : Nat} {W W' : World} (h : HalfD A B l lv j W) (hb : Below W.heap.size W W') : HalfD A B l lv j W' := by
 rcases h with h | ⟨g, cap, cur, h1, h2, h3, h4, h5, h6⟩
 ·exact .inl h
 ·refine .inr ⟨g, cap, cur, h1, h2, (hb.block _ (Array.getElem?_eq_some_iff.1 h3).1).trans h3, h4, h5, fun i hi => ?_⟩
  obtain ⟨cs, c5, e, ha, hb2⟩ := h6 i hi
  exact ⟨cs, c5, e, fun h => Dt.At.keeps (Keeps.of_below hb) _ _ (ha h), fun h => Dt.At.keeps (Keeps.of_below hb) _ _ (hb2 h)⟩
theorem HalfD.turned {A B x : Nat} {l : List Dt} {lv : Value} {j : Nat} {W W' : World} (h : HalfD A B l lv j W) (hg : W.grownBy W' (some x)) (hx : A ≤ x ∧ x < B) : HalfD A B l lv j W' := by
 rcases h with h | ⟨g, cap, cur, h1, h2, h3, h4, h5, h6⟩
 ·exact .inl h
 ·refine .inr ⟨g, cap, cur, h1, h2, (hg.block _ (Array.getElem?_eq_some_iff.1 h3).1 (fun e => by injection e with e; omega)).trans h3, h4, h5, fun i hi => ?_⟩
  obtain ⟨cs, c5, e, ha, hb2⟩ := h6 i hi
  exact ⟨cs, c5, e, fun h => Dt.At.keeps (fun y c T fz hs hy _ => ⟨fz, (hg.block y (Array.getElem?_eq_some_iff.1 hy).1 (fun e => by injection e with e; have := hs.1; omega)).trans hy⟩) _ _ (ha h), fun h => Dt.At.keeps (fun y c T fz hs hy _ => ⟨fz, (hg.block y (Array.getElem?_eq_some_iff.1 hy).1 (fun e => by injection e with e; have : y < A := hs; omega)).trans hy⟩) _ _ (hb2 h)⟩
theorem HalfD.done {A B : Nat} {l : List Dt} {lv : Value} {W : World} (h : HalfD A B l lv l.length W) : LAt (fun x => B ≤ x) W lv l := by
 rcases h with ⟨rfl, rfl⟩ | ⟨g, cap, cur, rfl, h2, h3, h4, h5, h6⟩
 ·exact .inl ⟨rfl, rfl⟩
 ·refine .inr ⟨g, 0, cap, cur, (0, 0), rfl, h2, h3, Dts.At.of_get _ _ _ fun j hj => ?_, h5⟩
  obtain ⟨cs, c5, e, ha, _⟩ := h6 j hj
  exact ⟨cs, fun i hi => by rw [← e i hi]; congr 1; omega, (ha hj).mono (fun g h => h.1)⟩
theorem MAt.turned29 {S : Nat → Prop} {W W' : World} {v : Value} {ms : List Int} {g : Nat} {c : Array Value} {fz : Nat × Nat} (h : MAt S W v ms) (hg : W.grownBy W' (some g)) (hc : W.heap[g]? = some (Obj.cells c 29 fz)) : MAt S W' v ms :=
 ((h.ne hc).keeps (fun y c T fz hs hy _ => ⟨fz, (hg.block y (Array.getElem?_eq_some_iff.1 hy).1 (fun e => by injection e with e; exact hs.2 e)).trans hy⟩)).mono (fun g h => h.1)
def RetCopied (d : Dt) (w : World) (e : Ending) (w' : World) : Prop := ∃ cs, e = .returned (.agg cs) ∧ Dt.At (fun x => w.heap.size ≤ x) w' d cs ∧ Below w.heap.size w w'
theorem one_set (W : World) (g i : Nat) (u : Value) : W.grownBy (W.setCell ⟨g, i, none⟩ u) (some g) :=
 ⟨rfl, rfl, rfl, by simp [World.setCell], fun k _ hk => by rw [heap_setCell_other _ _ _ _ (fun e => hk (by rw [e]))]⟩
theorem grown_same {a b c : World} {row : Option Nat} (h : a.grownBy b row) (k : b.grownBy c row) : a.grownBy c row :=
 ⟨k.os.trans h.os, k.tape.trans h.tape, k.output.trans h.output, Nat.le_trans h.size k.size, fun i hi hn => (k.block i (by have := h.size; omega) hn).trans (h.block i hi hn)⟩
/-- Five cells of a row are written. -/
theorem five_set (W : World) (g b : Nat) (cur : Array Value) (u0 u1 u2 u3 u4 : Value) (hg : W.heap[g]? = some (Obj.cells cur 29 (0, 0))) (hb : b + 5 ≤ cur.size) :
  ∃ cur', (((((W.setCell ⟨g, b, none⟩ u0).setCell ⟨g, b + 1, none⟩ u1).setCell ⟨g, b + 2, none⟩ u2).setCell ⟨g, b + 3, none⟩ u3).setCell ⟨g, b + 4, none⟩ u4).heap[g]? = some (Obj.cells cur' 29 (0, 0)) ∧ cur'.size = cur.size ∧ (∀ t, t < 5 → cur'[b + t]? = #[u0, u1, u2, u3, u4][t]?) ∧ (∀ i, (i < b ∨ b + 5 ≤ i) → cur'[i]? = cur[i]?) ∧
   W.grownBy (((((W.setCell ⟨g, b, none⟩ u0).setCell ⟨g, b + 1, none⟩ u1).setCell ⟨g, b + 2, none⟩ u2).setCell ⟨g, b + 3, none⟩ u3).setCell ⟨g, b + 4, none⟩ u4) (some g) := by
 have h1 := heap_setCell_same W g b cur 29 u0 hg
 have h2 := heap_setCell_same _ g (b + 1) _ 29 u1 h1
 have h3 := heap_setCell_same _ g (b + 2) _ 29 u2 h2
 have h4 := heap_setCell_same _ g (b + 3) _ 29 u3 h3
 have h5 := heap_setCell_same _ g (b + 4) _ 29 u4 h4
 refine ⟨_, h5, by simp only [Array.size_setIfInBounds], fun t ht => ?_, fun i hi => ?_, ?_⟩
 ·rcases (show t = 0 ∨ t = 1 ∨ t = 2 ∨ t = 3 ∨ t = 4 by omega) with rfl | rfl | rfl | rfl | rfl
  ·rw [Array.getElem?_setIfInBounds_ne (by omega), Array.getElem?_setIfInBounds_ne (by omega), Array.getElem?_setIfInBounds_ne (by omega), Array.getElem?_setIfInBounds_ne (by omega), Nat.add_zero]; rw [Array.getElem?_setIfInBounds_self_of_lt (by omega)]; rfl
  ·rw [Array.getElem?_setIfInBounds_ne (by omega), Array.getElem?_setIfInBounds_ne (by omega), Array.getElem?_setIfInBounds_ne (by omega)]; rw [Array.getElem?_setIfInBounds_self_of_lt (by simp only [Array.size_setIfInBounds]; omega)]; rfl
  ·rw [Array.getElem?_setIfInBounds_ne (by omega), Array.getElem?_setIfInBounds_ne (by omega)]; rw [Array.getElem?_setIfInBounds_self_of_lt (by simp only [Array.size_setIfInBounds]; omega)]; rfl
  ·rw [Array.getElem?_setIfInBounds_ne (by omega)]; rw [Array.getElem?_setIfInBounds_self_of_lt (by simp only [Array.size_setIfInBounds]; omega)]; rfl
  ·rw [Array.getElem?_setIfInBounds_self_of_lt (by simp only [Array.size_setIfInBounds]; omega)]; rfl
 ·rw [Array.getElem?_setIfInBounds_ne (by omega), Array.getElem?_setIfInBounds_ne (by omega), Array.getElem?_setIfInBounds_ne (by omega), Array.getElem?_setIfInBounds_ne (by omega), Array.getElem?_setIfInBounds_ne (by omega)]
 ·exact grown_same (grown_same (grown_same (grown_same (one_set _ g b u0) (one_set _ g (b + 1) u1)) (one_set _ g (b + 2) u2)) (one_set _ g (b + 3) u3)) (one_set _ g (b + 4) u4)
/-- A step that writes the j-th of a row of which j are copied. -/
theorem HalfD.step {A B : Nat} {l : List Dt} {g cap : Nat} {j : Nat} {W : World} (hAB : A ≤ B) (h : HalfD A B l (.slice (some ⟨g, 0, none⟩) l.length cap) j W) (hj : j < l.length) {u0 u1 u2 u3 u4 : Value} (hd : Dt.At (fun x => B ≤ x ∧ x ≠ g) W l[j] #[u0, u1, u2, u3, u4]) :
  HalfD A B l (.slice (some ⟨g, 0, none⟩) l.length cap) (j + 1) (((((W.setCell ⟨g, j * 5, none⟩ u0).setCell ⟨g, j * 5 + 1, none⟩ u1).setCell ⟨g, j * 5 + 2, none⟩ u2).setCell ⟨g, j * 5 + 3, none⟩ u3).setCell ⟨g, j * 5 + 4, none⟩ u4) ∧ W.grownBy (((((W.setCell ⟨g, j * 5, none⟩ u0).setCell ⟨g, j * 5 + 1, none⟩ u1).setCell ⟨g, j * 5 + 2, none⟩ u2).setCell ⟨g, j * 5 + 3, none⟩ u3).setCell ⟨g, j * 5 + 4, none⟩ u4) (some g) := by
 rcases h with ⟨h, rfl⟩ | ⟨g', cap', cur, e1, h2, h3, h4, h5, h6⟩
 ·simp at hj
 ·injection e1 with e1 _ e3
  injection e1 with e1; injection e1 with e1
  subst e1; subst e3
  obtain ⟨cur', hx, hs, ht, ho, hgr⟩ := five_set W g (j * 5) cur u0 u1 u2 u3 u4 h3 (by omega)
  refine ⟨.inr ⟨g, cap, cur', rfl, h2, hx, by omega, h5, fun i hi => ?_⟩, hgr⟩
  have hk : Keeps (fun x => B ≤ x ∧ x ≠ g) W (((((W.setCell ⟨g, j * 5, none⟩ u0).setCell ⟨g, j * 5 + 1, none⟩ u1).setCell ⟨g, j * 5 + 2, none⟩ u2).setCell ⟨g, j * 5 + 3, none⟩ u3).setCell ⟨g, j * 5 + 4, none⟩ u4) := fun x c T fz hs hx _ => ⟨fz, (hgr.block x (Array.getElem?_eq_some_iff.1 hx).1 (fun e => by injection e with e; exact hs.2 e)).trans hx⟩
  have hk2 : Keeps (fun x => x < A) W (((((W.setCell ⟨g, j * 5, none⟩ u0).setCell ⟨g, j * 5 + 1, none⟩ u1).setCell ⟨g, j * 5 + 2, none⟩ u2).setCell ⟨g, j * 5 + 3, none⟩ u3).setCell ⟨g, j * 5 + 4, none⟩ u4) := fun x c T fz hs hx _ => ⟨fz, (hgr.block x (Array.getElem?_eq_some_iff.1 hx).1 (fun e => by injection e with e; have : x < A := hs; omega)).trans hx⟩
  obtain ⟨cs, c5, e, ha, hb⟩ := h6 i hi
  by_cases hij : i = j
  ·subst hij
   exact ⟨#[u0, u1, u2, u3, u4], rfl, fun t h => by rw [Nat.mul_comm 5 i]; exact ht t h, fun _ => Dt.At.keeps hk _ _ hd, fun h => absurd h (by omega)⟩
  ·refine ⟨cs, c5, fun t h => ?_, fun h => Dt.At.keeps hk _ _ (ha (by omega)), fun h => Dt.At.keeps hk2 _ _ (hb (by omega))⟩
   rw [ho _ (by omega)]; exact e t h
theorem info29c : (Try.prog.info? 29).map (·.size) = some 5 := by kernel_rfl
def CpInv (w : World) (c1 : Array Value) (ms : List Int) (l : List Dt) (mv lv : Value) (iv : Value) (W : World) : Prop :=
 ∃ j : Nat, j ≤ l.length ∧ iv = .int .i64 (j : Int) ∧ HalfD w.heap.size (w.heap.size + 2) l lv j W ∧ W.heap[w.heap.size]? = some (Obj.cells c1 29 (0, 0)) ∧ W.heap[w.heap.size + 1]? = some (Obj.cells Z5 29 (0, 0)) ∧ MAt (fun x => w.heap.size + 2 ≤ x) W mv ms ∧ Below w.heap.size w W
set_option maxHeartbeats 16000000 in
set_option maxRecDepth 100000 in
theorem copied_any (n : Nat) : n ≤ 1000000 → ∀ (d : Dt), d.size ≤ n → ∀ (cs : Array Value) (w : World), Dt.At (fun x => x < w.heap.size) w d cs → Calls Try.prog 79 #[.agg cs] w (RetCopied d w) := by
 induction n with
 | zero => intro _ d hd; cases d; simp [Dt.size] at hd
 | succ n ih0 =>
  intro hn d hd cs w hat
  have IH := Lib.hid (ih0 (by omega))
  obtain ⟨k, t, ms, l, p⟩ := d
  rw [At_mk] at hat
  obtain ⟨mv, lv, rfl, hm, hl⟩ := hat
  obtain ⟨mo, mc, rfl⟩ := MAt.form2 hm
  obtain ⟨lo, lc, rfl⟩ := hl.form
  have hsz : Dt.sizes l ≤ n := by simp only [Dt.size] at hd; omega
  have hll := length_sizes l
  have hms : ms.length ≤ 1000000000 := hm.short
  obtain ⟨ml, hml⟩ : ∃ m, m = ms.length := ⟨_, rfl⟩
  have hml9 : ms.length ≤ 1000000000 := hms
  rw [← hml] at hm ⊢
  have hb0 : Below w.heap.size w ((w.alloc (.cells #[.int .i64 k, .string t, .slice mo ml mc, .slice lo l.length lc, .int .i64 p] 29)).alloc (.cells Z5 29)) := ((Below.refl _ _).alloc (Nat.le_refl _) _).alloc (by simp) _
  have hx0 : ((w.alloc (.cells #[.int .i64 k, .string t, .slice mo ml mc, .slice lo l.length lc, .int .i64 p] 29)).alloc (.cells Z5 29)).heap[w.heap.size]? = some (Obj.cells #[.int .i64 k, .string t, .slice mo ml mc, .slice lo l.length lc, .int .i64 p] 29 (0, 0)) := (Lib.alloc_old _ _ _ (by simp)).trans (alloc_at _ _)
  have hx1 : ((w.alloc (.cells #[.int .i64 k, .string t, .slice mo ml mc, .slice lo l.length lc, .int .i64 p] 29)).alloc (.cells Z5 29)).heap[w.heap.size + 1]? = some (Obj.cells Z5 29 (0, 0)) := by
   have h := alloc_at (w.alloc (.cells #[.int .i64 k, .string t, .slice mo ml mc, .slice lo l.length lc, .int .i64 p] 29)) (.cells Z5 29)
   rw [World.size_alloc] at h; exact h
  have hs9 : ((w.alloc (.cells #[.int .i64 k, .string t, .slice mo ml mc, .slice lo l.length lc, .int .i64 p] 29)).alloc (.cells Z5 29)).heap.size = w.heap.size + 1 + 1 := by simp
  have HM := Lib.hid hm
  have HL := Lib.hid hl
  have HML := Lib.hid hml
  have HML9 := Lib.hid hml9
  clear hm hl ih0 hml hms hd hml9
  go_enter Try.func79, Try.ntmps79
  go_upto_region 1 with fail
  rename_i K hK
  have REST : Hid (∀ (mo2 : Option Addr) (mc2 : Nat) (lo2 : Option Addr) (lc2 : Nat) (W : World), W.heap[w.heap.size]? = some (Obj.cells #[.int .i64 k, .string t, .slice mo2 ml mc2, .slice lo2 l.length lc2, .int .i64 p] 29 (0, 0)) → W.heap[w.heap.size + 1]? = some (Obj.cells Z5 29 (0, 0)) → Below w.heap.size w W →
    MAt (fun x => w.heap.size + 2 ≤ x) W (.slice mo2 ml mc2) ms → HalfD w.heap.size (w.heap.size + 2) l (.slice lo2 l.length lc2) 0 W → K { tmps := #[.agg #[.int .i64 k, .string t, .slice mo ml mc, .slice lo l.length lc, .int .i64 p], .pointer (some ⟨w.heap.size, 0, none⟩), .pointer (some ⟨w.heap.size + 1, 0, none⟩), undef, undef, .pointer (some ⟨w.heap.size, 2, none⟩), .slice mo ml mc, .slice mo2 ml mc2, .pointer (some ⟨w.heap.size, 3, none⟩), .slice lo l.length lc, .slice lo2 l.length lc2, .pointer (some ⟨w.heap.size, 2, none⟩), .pointer (some ⟨w.heap.size, 3, none⟩), undef, undef, undef, undef, undef, undef, undef, undef, undef, undef, undef, undef, undef, undef, undef, undef], defers := [] } W) := by
   intro mo2 mc2 lo2 lc2 W hX hZ hb hMA hHD
   refine hK _ _ ?_
   have HX := Lib.hid hX
   have HZ := Lib.hid hZ
   have HB := Lib.hid hb
   have HMA := Lib.hid hMA
   have HHD := Lib.hid hHD
   have e3 : W.cell? ⟨w.heap.size, 3, none⟩ = some (.slice lo2 l.length lc2) := by rw [Lib.cell_of_heap hX]; rfl
   clear hX hZ hb hMA hHD hK hb0 hx0 hx1 hs9
   go_wp2_with fail
   go_loopw [16] (fun iv wr => CpInv w #[.int .i64 k, .string t, .slice mo2 ml mc2, .slice lo2 l.length lc2, .int .i64 p] ms l (.slice mo2 ml mc2) (.slice lo2 l.length lc2) iv wr) (fun iv _ => l.length - (intOf iv).toNat)
   case atStart => exact ⟨0, Nat.zero_le _, rfl, HHD.out, HX.out, HZ.out, HMA.out, HB.out⟩
   case round =>
    clear e3 HX HZ HB HMA HHD
    obtain ⟨j, hj, rfl, hHD, hX, hZ, hMA, hb⟩ := hrel
    have HX := Lib.hid hX
    have HZ := Lib.hid hZ
    have HB := Lib.hid hb
    have HMA := Lib.hid hMA
    have HHD := Lib.hid hHD
    have hbs := hb.size
    have hxl := (Array.getElem?_eq_some_iff.1 hZ).1
    by_cases hlt : j < l.length
    ·have q1 : decide ((j : Int) < (l.length : Int)) = true := decide_eq_true (by omega)
     rcases hHD with ⟨_, rfl⟩ | ⟨g, cap, cur, e1, h2, h3, h4, h5, h6⟩
     ·simp at hlt
     ·injection e1 with e1 _ e4
      subst e1; subst e4
      obtain ⟨cs, c5, hcs, _, hat⟩ := h6 j hlt
      have hat := hat (Nat.le_refl _)
      obtain ⟨m1, l1, ecs, o1, o2⟩ := At_five hat
      have hgl := (Array.getElem?_eq_some_iff.1 h3).1
      obtain ⟨dp, hdp⟩ : ∃ d, d = l[j] := ⟨_, rfl⟩
      have hsg := size_get l j hlt
      rw [← hdp] at hat ecs hsg
      subst ecs
      obtain ⟨x0, hx0⟩ : ∃ k, k = dp.kind := ⟨_, rfl⟩
      obtain ⟨x1, hx1⟩ : ∃ k, k = dp.text := ⟨_, rfl⟩
      obtain ⟨x4, hx4⟩ : ∃ k, k = dp.place := ⟨_, rfl⟩
      rw [← hx0, ← hx1, ← hx4] at hat hcs
      have c0 : wr.cell? ⟨g, j * 5, none⟩ = some (.int .i64 x0) := by rw [Lib.cell_of_heap h3, Nat.mul_comm]; exact hcs 0 (by decide)
      have c1 : wr.cell? ⟨g, j * 5 + 1, none⟩ = some (.string x1) := by rw [Lib.cell_of_heap h3, Nat.mul_comm]; exact hcs 1 (by decide)
      have c2 : wr.cell? ⟨g, j * 5 + 2, none⟩ = some m1 := by rw [Lib.cell_of_heap h3, Nat.mul_comm]; exact hcs 2 (by decide)
      have c3 : wr.cell? ⟨g, j * 5 + 3, none⟩ = some l1 := by rw [Lib.cell_of_heap h3, Nat.mul_comm]; exact hcs 3 (by decide)
      have c4 : wr.cell? ⟨g, j * 5 + 4, none⟩ = some (.int .i64 x4) := by rw [Lib.cell_of_heap h3, Nat.mul_comm]; exact hcs 4 (by decide)
      have HAT := Lib.hid hat
      have HDP := Lib.hid hdp
      clear hX hZ hMA hb h3 h6 hcs hx0 hx1 hx4 hat h4 h5 hdp c5
      go_upto_region 5 with (refine wpList_store_row rfl 29 _ _ rfl wr.heap.size #[.int .i64 x0, .string x1, m1, l1, .int .i64 x4] rfl rfl 29 Z5 (alloc_at wr (.cells Z5 29)) info29c rfl (by simp [Value.oneCell']; exact ⟨o1, o2⟩) ?_)
      have h3' : (wr.alloc (.cells Z5 29)).setRow wr.heap.size #[.int .i64 x0, .string x1, m1, l1, .int .i64 x4] = wr.alloc (.cells #[.int .i64 x0, .string x1, m1, l1, .int .i64 x4] 29) := setRow_new_at _ _ _ _ _ rfl
      try simp only [Z5] at h3'
      try rw [h3']
      clear h3' c0 c1 c2 c3 c4
      have hbY : Below wr.heap.size wr (wr.alloc (.cells #[.int .i64 x0, .string x1, m1, l1, .int .i64 x4] 29)) := (Below.refl _ _).alloc (Nat.le_refl _) _
      have hxY := alloc_at wr (.cells #[.int .i64 x0, .string x1, m1, l1, .int .i64 x4] 29)
      have hsY : (wr.alloc (.cells #[.int .i64 x0, .string x1, m1, l1, .int .i64 x4] 29)).heap.size = wr.heap.size + 1 := by simp
      generalize wr.alloc (.cells #[.int .i64 x0, .string x1, m1, l1, .int .i64 x4] 29) = Y at hbY hxY hsY ⊢
      have HBY := Lib.hid hbY
      have HC : Hid (∀ w' : World, (w'.heap[w.heap.size]? = some (Obj.cells #[.int .i64 k, .string t, .slice mo2 ml mc2, .slice (some ⟨g, 0, none⟩) l.length lc2, .int .i64 p] 29 (0, 0)) ∧ w'.heap[wr.heap.size]? = some (Obj.cells #[.int .i64 x0, .string x1, m1, l1, .int .i64 x4] 29 (0, 0))) → w'.cell? ⟨w.heap.size, 3, none⟩ = some (.slice (some ⟨g, 0, none⟩) l.length lc2) ∧ w'.cell? ⟨wr.heap.size, 0, none⟩ = some (.int .i64 x0) ∧ w'.cell? ⟨wr.heap.size, 1, none⟩ = some (.string x1) ∧ w'.cell? ⟨wr.heap.size, 2, none⟩ = some m1 ∧ w'.cell? ⟨wr.heap.size, 3, none⟩ = some l1 ∧ w'.cell? ⟨wr.heap.size, 4, none⟩ = some (.int .i64 x4)) := by
       rintro w' ⟨h, h'⟩
       exact ⟨by rw [Lib.cell_of_heap h]; rfl, by rw [Lib.cell_of_heap h']; rfl, by rw [Lib.cell_of_heap h']; rfl, by rw [Lib.cell_of_heap h']; rfl, by rw [Lib.cell_of_heap h']; rfl, by rw [Lib.cell_of_heap h']; rfl⟩
      have hS0 : Y.drew.heap[w.heap.size]? = some (Obj.cells #[.int .i64 k, .string t, .slice mo2 ml mc2, .slice (some ⟨g, 0, none⟩) l.length lc2, .int .i64 p] 29 (0, 0)) ∧ Y.drew.heap[wr.heap.size]? = some (Obj.cells #[.int .i64 x0, .string x1, m1, l1, .int .i64 x4] 29 (0, 0)) := ⟨(hbY.block _ (by omega)).trans HX.out, hxY⟩
      refine wp_region_noPanic ?_
      refine wp_region_held_drew (S := fun W' => W'.heap[w.heap.size]? = some (Obj.cells #[.int .i64 k, .string t, .slice mo2 ml mc2, .slice (some ⟨g, 0, none⟩) l.length lc2, .int .i64 p] 29 (0, 0)) ∧ W'.heap[wr.heap.size]? = some (Obj.cells #[.int .i64 x0, .string x1, m1, l1, .int .i64 x4] 29 (0, 0))) (by kernel_rfl) hS0 (fun hHeld => ?_)
      have hbV : Below wr.heap.size wr Y.drew := hbY.drew
      have hsV : Y.drew.heap.size = wr.heap.size + 1 := hsY
      generalize Y.drew = V at hHeld hbV hsV ⊢
      clear hbY hxY hsY hS0
      have HBV := Lib.hid hbV
      clear hbV
      refine qts [0, 1, 2, 3] hHeld ?_
      iterate 4 (refine qtc (v := ?_) rfl rfl (fun w' hw' => ?_) ?_; rotate_left; (focus ((obtain ⟨e0, e1, e2, e3, e4, e5⟩ := HC.out w' hw'; go_simp); try with_reducible rfl)); simp only [zt,zs,zz,Act.put,zi,zy,zx])
      refine qtn ?_
      simp only [zt,zs,zz,Act.put,zi,zy,zx,qzl,qzn,qza,Nat.reduceAdd,Nat.reduceSub]
      refine wpAnyH_ready (rs := [4]) (by kernel_rfl) (by simp) ?_
      refine (AllReadyH.cons rfl (fun K hK => ?_) AllReadyH.nil)
      go_simp
      refine (IH.out dp (by omega) _ V ((Dt.At.keeps (Keeps.of_below HBV.out) _ _ HAT.out).mono (fun x h => by have : x < w.heap.size := h; show x < V.heap.size; omega))).mono ?_
      rintro e w6 ⟨cz, rfl, haz, hb6⟩
      have hs6 := hb6.size
      obtain ⟨z0, z1, za, zb, zc, zd, ze, zf, z4, rfl⟩ := At_slices haz
      have HAZ := Lib.hid (haz.mono (T := fun x => w.heap.size + 2 ≤ x ∧ x ≠ g) (fun x h => by have : V.heap.size ≤ x := h; exact ⟨by omega, by omega⟩))
      have hHeld := (⟨(hb6.block _ (by omega)).trans hHeld.1, (hb6.block _ (by omega)).trans hHeld.2⟩ : w6.heap[w.heap.size]? = some (Obj.cells #[.int .i64 k, .string t, .slice mo2 ml mc2, .slice (some ⟨g, 0, none⟩) l.length lc2, .int .i64 p] 29 (0, 0)) ∧ w6.heap[wr.heap.size]? = some (Obj.cells #[.int .i64 x0, .string x1, m1, l1, .int .i64 x4] 29 (0, 0)))
      have HB6 := Lib.hid (HBV.out.trans (hb6.mono (by omega)))
      clear haz hb6
      refine hK.out _ _ hHeld (fun hHeld => ?_)
      clear hK K
      try simp only [zt,zs,zz,Act.put,zi,zy,zx]
      refine qtk (i := 5) (v := ?v4) rfl rfl (fun w' hw' => ?h4) hHeld ?r4
      case h4 => go_simp; try with_reducible rfl
      simp only [zt,zs,zz,Act.put,zi,zy,zx]
      refine wpAnyH_ready (rs := [6]) (by kernel_rfl) (by simp) ?_
      refine (AllReadyH.cons rfl (fun K hK => ?_) AllReadyH.nil)
      have hHD6 := HHD.out.below HB6.out
      have h36 : ∃ cur6, w6.heap[g]? = some (Obj.cells cur6 29 (0, 0)) ∧ l.length * 5 ≤ cur6.size := by
       rcases hHD6 with ⟨_, e⟩ | ⟨g2, cap2, cur2, e2, _, e3, e4, _⟩
       ·rw [e] at hlt; simp at hlt
       ·injection e2 with e2 _ _; injection e2 with e2; injection e2 with e2; subst e2; exact ⟨_, e3, e4⟩
      obtain ⟨cur6, hg6, hc6⟩ := h36
      obtain ⟨y0, d0⟩ : ∃ y, w6.cell? ⟨g, j * 5, none⟩ = some y := ⟨cur6[j * 5 + 0]'(by omega), by rw [Lib.cell_of_heap hg6]; exact Array.getElem?_eq_getElem _⟩
      obtain ⟨y1, d1⟩ : ∃ y, w6.cell? ⟨g, j * 5 + 1, none⟩ = some y := ⟨cur6[j * 5 + 1]'(by omega), by rw [Lib.cell_of_heap hg6]; exact Array.getElem?_eq_getElem _⟩
      obtain ⟨y2, d2⟩ : ∃ y, w6.cell? ⟨g, j * 5 + 2, none⟩ = some y := ⟨cur6[j * 5 + 2]'(by omega), by rw [Lib.cell_of_heap hg6]; exact Array.getElem?_eq_getElem _⟩
      obtain ⟨y3, d3⟩ : ∃ y, w6.cell? ⟨g, j * 5 + 3, none⟩ = some y := ⟨cur6[j * 5 + 3]'(by omega), by rw [Lib.cell_of_heap hg6]; exact Array.getElem?_eq_getElem _⟩
      obtain ⟨y4, d4⟩ : ∃ y, w6.cell? ⟨g, j * 5 + 4, none⟩ = some y := ⟨cur6[j * 5 + 4]'(by omega), by rw [Lib.cell_of_heap hg6]; exact Array.getElem?_eq_getElem _⟩
      have f0 : w6.frozen? ⟨g, j * 5, none⟩ = false := by simp [World.frozen?, hg6]
      have f1 : w6.frozen? ⟨g, j * 5 + 1, none⟩ = false := by simp [World.frozen?, hg6]
      have f2 : w6.frozen? ⟨g, j * 5 + 2, none⟩ = false := by simp [World.frozen?, hg6]
      have f3 : w6.frozen? ⟨g, j * 5 + 3, none⟩ = false := by simp [World.frozen?, hg6]
      have f4 : w6.frozen? ⟨g, j * 5 + 4, none⟩ = false := by simp [World.frozen?, hg6]
      go_simp
      have hst := HalfD.step (by omega) hHD6 hlt (u0 := .int .i64 z0) (u1 := .string z1) (u2 := .slice za zb zc) (u3 := .slice zd ze zf) (u4 := .int .i64 z4) (by rw [← HDP.out]; exact HAZ.out)
      obtain ⟨hst1, hst2⟩ := hst
      have hHeld9 : (((((w6.setCell ⟨g, j * 5, none⟩ (.int .i64 z0)).setCell ⟨g, j * 5 + 1, none⟩ (.string z1)).setCell ⟨g, j * 5 + 2, none⟩ (.slice za zb zc)).setCell ⟨g, j * 5 + 3, none⟩ (.slice zd ze zf)).setCell ⟨g, j * 5 + 4, none⟩ (.int .i64 z4)).heap[w.heap.size]? = some (Obj.cells #[.int .i64 k, .string t, .slice mo2 ml mc2, .slice (some ⟨g, 0, none⟩) l.length lc2, .int .i64 p] 29 (0, 0)) ∧ (((((w6.setCell ⟨g, j * 5, none⟩ (.int .i64 z0)).setCell ⟨g, j * 5 + 1, none⟩ (.string z1)).setCell ⟨g, j * 5 + 2, none⟩ (.slice za zb zc)).setCell ⟨g, j * 5 + 3, none⟩ (.slice zd ze zf)).setCell ⟨g, j * 5 + 4, none⟩ (.int .i64 z4)).heap[wr.heap.size]? = some (Obj.cells #[.int .i64 x0, .string x1, m1, l1, .int .i64 x4] 29 (0, 0)) := ⟨(hst2.block _ (by omega) (fun e => by injection e with e; omega)).trans hHeld.1, (hst2.block _ (by omega) (fun e => by injection e with e; omega)).trans hHeld.2⟩
      refine hK.out _ _ hHeld9 (fun hHeld => ?_)
      have hMA9 := (HMA.out.keeps (Keeps.of_below HB6.out)).turned29 hst2 hg6
      have hZ9 := (hst2.block _ (by omega) (fun e => by injection e with e; omega)).trans ((HB6.out.block _ hxl).trans HZ.out)
      have hB9 : Below w.heap.size w (((((w6.setCell ⟨g, j * 5, none⟩ (.int .i64 z0)).setCell ⟨g, j * 5 + 1, none⟩ (.string z1)).setCell ⟨g, j * 5 + 2, none⟩ (.slice za zb zc)).setCell ⟨g, j * 5 + 3, none⟩ (.slice zd ze zf)).setCell ⟨g, j * 5 + 4, none⟩ (.int .i64 z4)) := (HB.out.trans (HB6.out.mono (by omega))).grown hst2 (by omega) (fun k e => by injection e with e; omega)
      have H1 := Lib.hid hst1
      have H2 := Lib.hid hHeld9.1
      have H3 := Lib.hid hMA9
      have H4 := Lib.hid hZ9
      have H5 := Lib.hid hB9
      clear hst1 hst2 hHeld9 hMA9 hZ9 hB9 hHD6 hg6 hc6 d0 f0 d1 f1 d2 f2 d3 f3 d4 f4
      clear hK K
      try simp only [zt,zs,zz,Act.put,zi,zy,zx]
      refine wpAnyH_done (by kernel_rfl) ?_ _
      refine NoPanic.normal ?_
      clear hHeld
      go_wp2_with fail
      go_roundw
      case rel => exact ⟨j + 1, by omega, by go_num, H1.out, H2.out, H4.out, H3.out, H5.out⟩
      case measure => simp [intOf]; omega
    ·obtain rfl : j = l.length := by omega
     have q1 : decide ((l.length : Int) < (l.length : Int)) = false := decide_eq_false (by omega)
     have hLD := HHD.out.done
     have HLD := Lib.hid hLD
     have e0 : wr.cell? ⟨w.heap.size, 0, none⟩ = some (.int .i64 k) := by rw [Lib.cell_of_heap hX]; rfl
     have e1 : wr.cell? ⟨w.heap.size, 1, none⟩ = some (.string t) := by rw [Lib.cell_of_heap hX]; rfl
     have e2 : wr.cell? ⟨w.heap.size, 2, none⟩ = some (.slice mo2 ml mc2) := by rw [Lib.cell_of_heap hX]; rfl
     have e3 : wr.cell? ⟨w.heap.size, 3, none⟩ = some (.slice lo2 l.length lc2) := by rw [Lib.cell_of_heap hX]; rfl
     have e4 : wr.cell? ⟨w.heap.size, 4, none⟩ = some (.int .i64 p) := by rw [Lib.cell_of_heap hX]; rfl
     clear hHD hX hZ hMA hb hLD
     go_wp2_with (refine wpList_store_row rfl 29 _ _ rfl (w.heap.size + 1) #[.int .i64 k, .string t, .slice mo2 ml mc2, .slice lo2 l.length lc2, .int .i64 p] rfl rfl 29 Z5 HZ.out info29c rfl (by simp [Value.oneCell']) ?_)
     have hr9 := setRow_heap wr (w.heap.size + 1) Z5 #[.int .i64 k, .string t, .slice mo2 ml mc2, .slice lo2 l.length lc2, .int .i64 p] 29 (0, 0) HZ.out
     have hgr9 : wr.grownBy (wr.setRow (w.heap.size + 1) #[.int .i64 k, .string t, .slice mo2 ml mc2, .slice lo2 l.length lc2, .int .i64 p]) (some (w.heap.size + 1)) := ⟨rfl, rfl, rfl, by simp [World.setRow], fun x _ hx => setRow_other wr _ x _ (fun e => hx (by rw [e]))⟩
     have hMA9 := HMA.out.turned29 hgr9 HZ.out
     have hLD9 := HLD.out.keeps (fun y c T fz hs hy _ => ⟨fz, (hgr9.block y (Array.getElem?_eq_some_iff.1 hy).1 (fun e => by injection e with e; have : w.heap.size + 2 ≤ y := hs; omega)).trans hy⟩)
     have hb9 := HB.out.grown hgr9 HB.out.size (fun k e => by injection e with e; omega)
     generalize wr.setRow (w.heap.size + 1) #[.int .i64 k, .string t, .slice mo2 ml mc2, .slice lo2 l.length lc2, .int .i64 p] = W9 at hr9 hgr9 hMA9 hLD9 hb9 ⊢
     have g0 : W9.cell? ⟨w.heap.size + 1, 0, none⟩ = some (.int .i64 k) := by rw [Lib.cell_of_heap hr9]; rfl
     have g1 : W9.cell? ⟨w.heap.size + 1, 1, none⟩ = some (.string t) := by rw [Lib.cell_of_heap hr9]; rfl
     have g2 : W9.cell? ⟨w.heap.size + 1, 2, none⟩ = some (.slice mo2 ml mc2) := by rw [Lib.cell_of_heap hr9]; rfl
     have g3 : W9.cell? ⟨w.heap.size + 1, 3, none⟩ = some (.slice lo2 l.length lc2) := by rw [Lib.cell_of_heap hr9]; rfl
     have g4 : W9.cell? ⟨w.heap.size + 1, 4, none⟩ = some (.int .i64 p) := by rw [Lib.cell_of_heap hr9]; rfl
     refine ⟨rfl, .agg #[.int .i64 k, .string t, .slice mo2 ml mc2, .slice lo2 l.length lc2, .int .i64 p], by simp [results, Try.f79, go_sem, g0, g1, g2, g3, g4], (show RetCopied _ _ _ _ from ⟨_, rfl, ?_, hb9⟩)⟩
     rw [At_mk]
     refine ⟨_, _, rfl, hMA9.mono (fun x h => by have : w.heap.size + 2 ≤ x := h; show w.heap.size ≤ x; omega), hLD9.mono (fun x h => by have : w.heap.size + 2 ≤ x := h; show w.heap.size ≤ x; omega)⟩
  obtain ⟨V0, hV0⟩ : ∃ V0, V0 = ((w.alloc (.cells #[.int .i64 k, .string t, .slice mo ml mc, .slice lo l.length lc, .int .i64 p] 29)).alloc (.cells Z5 29)) := ⟨_, rfl⟩
  rw [← hV0] at hb0 hx0 hx1 hs9
  have hV1 : (w.alloc (.cells #[.int .i64 k, .string t, .slice mo ml mc, .slice lo l.length lc, .int .i64 p] 29)).alloc (.cells #[.int .i64 0, .string ⟨#[]⟩, .slice none 0 0, .slice none 0 0, .int .i64 0] 29) = V0 := hV0.symm
  try rw [hV1]
  try rw [← hV0]
  clear hV0 hV1 hK
  have hb : Below w.heap.size w V0.drew := hb0.drew
  have hX : V0.drew.heap[w.heap.size]? = some (Obj.cells #[.int .i64 k, .string t, .slice mo ml mc, .slice lo l.length lc, .int .i64 p] 29 (0, 0)) := hx0
  have hZ : V0.drew.heap[w.heap.size + 1]? = some (Obj.cells Z5 29 (0, 0)) := hx1
  have hsV : w.heap.size + 2 ≤ V0.drew.heap.size := by rw [show V0.drew.heap.size = V0.heap.size from rfl]; omega
  clear hb0 hx0 hx1 hs9
  refine wp_region_noPanic ?_
  refine wp_region_held_drew (S := fun _ => True) (by kernel_rfl) trivial (fun hHeld => ?_)
  generalize V0.drew = V_ at hb hX hZ hsV ⊢
  clear hHeld
  have hHeld : True := trivial
  refine qtk (i := 0) (v := ?v5) rfl rfl (fun w' hw' => ?h5) hHeld ?r5
  case h5 => go_simp; try with_reducible rfl
  simp only [zt,zs,zz,Act.put,zi,zy,zx]
  refine qtk (i := 3) (v := ?v6) rfl rfl (fun w' hw' => ?h6) hHeld ?r6
  case h6 => go_simp; try with_reducible rfl
  simp only [zt,zs,zz,Act.put,zi,zy,zx]
  refine wpAnyH_ready (rs := [1, 4]) (by kernel_rfl) (by simp) ?_
  refine (AllReadyH.cons rfl (fun K hK => ?_) (AllReadyH.cons rfl (fun K hK => ?_) AllReadyH.nil))
  ·skip
   have e2 : V_.cell? ⟨w.heap.size, 2, none⟩ = some (.slice mo ml mc) := by rw [Lib.cell_of_heap hX]; rfl
   go_simp
   refine hK.out _ _ trivial (fun hHeld => ?_)
   clear e2
   clear hK K
   try simp only [zt,zs,zz,Act.put,zi,zy,zx]
   refine wpAnyH_ready (rs := [2, 4]) (by kernel_rfl) (by simp) ?_
   refine (AllReadyH.cons rfl (fun K hK => ?_) (AllReadyH.cons rfl (fun K hK => ?_) AllReadyH.nil))
   ·skip
    go_simp
    refine (cloneI_any ms _ V_ (HM.out.keeps (Keeps.of_below hb)) HML9.out).mono ?_
    rintro e V_2 ⟨v2, rfl, hN, hbN⟩
    have hMA : MAt (fun x => w.heap.size + 2 ≤ x) V_2 v2 ms := (hN.at (by have := HML9.out; omega)).mono (fun x h => by have : V_.heap.size ≤ x := h; show w.heap.size + 2 ≤ x; omega)
    obtain ⟨mo2, mc2, rfl⟩ := MAt.form2 hMA
    rw [← HML.out] at hMA ⊢
    clear hN
    have hsN := hbN.size
    have hX : V_2.heap[w.heap.size]? = some (Obj.cells #[.int .i64 k, .string t, .slice mo ml mc, .slice lo l.length lc, .int .i64 p] 29 (0, 0)) := (hbN.block _ (by omega)).trans hX
    have hZ : V_2.heap[w.heap.size + 1]? = some (Obj.cells Z5 29 (0, 0)) := (hbN.block _ (by omega)).trans hZ
    have hb : Below w.heap.size w V_2 := hb.trans (hbN.mono (by omega))
    have hsV : w.heap.size + 2 ≤ V_2.heap.size := by omega
    clear hbN
    refine hK.out _ _ trivial (fun hHeld => ?_)
    clear hK K
    try simp only [zt,zs,zz,Act.put,zi,zy,zx]
    refine wpAnyH_ready (rs := [4]) (by kernel_rfl) (by simp) ?_
    refine (AllReadyH.cons rfl (fun K hK => ?_) AllReadyH.nil)
    have e3 : V_2.cell? ⟨w.heap.size, 3, none⟩ = some (.slice lo l.length lc) := by rw [Lib.cell_of_heap hX]; rfl
    go_simp
    refine hK.out _ _ trivial (fun hHeld => ?_)
    clear e3
    clear hK K
    try simp only [zt,zs,zz,Act.put,zi,zy,zx]
    refine qtk (i := 6) (v := ?v7) rfl rfl (fun w' hw' => ?h7) hHeld ?r7
    case h7 => go_simp; try with_reducible rfl
    simp only [zt,zs,zz,Act.put,zi,zy,zx]
    refine wpAnyH_ready (rs := [5]) (by kernel_rfl) (by simp) ?_
    refine (AllReadyH.cons rfl (fun K hK => ?_) AllReadyH.nil)
    go_simp
    refine (cloneD_any l _ V_2 (HL.out.keeps (Keeps.of_below hb)) (by omega)).mono ?_
    rintro e V_25 ⟨v5, rfl, hO, hbN⟩
    have hHD : HalfD w.heap.size (w.heap.size + 2) l v5 0 V_25 := OwnDI.half hO (by omega)
    obtain ⟨lo2, lc2, rfl⟩ := hHD.form
    have hMA := hMA.keeps (Keeps.of_below hbN)
    clear hO
    have hsN := hbN.size
    have hX : V_25.heap[w.heap.size]? = some (Obj.cells #[.int .i64 k, .string t, .slice mo ml mc, .slice lo l.length lc, .int .i64 p] 29 (0, 0)) := (hbN.block _ (by omega)).trans hX
    have hZ : V_25.heap[w.heap.size + 1]? = some (Obj.cells Z5 29 (0, 0)) := (hbN.block _ (by omega)).trans hZ
    have hb : Below w.heap.size w V_25 := hb.trans (hbN.mono (by omega))
    have hsV : w.heap.size + 2 ≤ V_25.heap.size := by omega
    clear hbN
    refine hK.out _ _ trivial (fun hHeld => ?_)
    clear hK K
    try simp only [zt,zs,zz,Act.put,zi,zy,zx]
    refine wpAnyH_ready (rs := [7]) (by kernel_rfl) (by simp) ?_
    refine (AllReadyH.cons rfl (fun K hK => ?_) AllReadyH.nil)
    have e2 : V_25.cell? ⟨w.heap.size, 2, none⟩ = some (.slice mo ml mc) := by rw [Lib.cell_of_heap hX]; rfl
    have f2 : V_25.frozen? ⟨w.heap.size, 2, none⟩ = false := by simp [World.frozen?, hX]
    go_simp
    refine hK.out _ _ trivial (fun hHeld => ?_)
    have hgr : V_25.grownBy (V_25.setCell ⟨w.heap.size, 2, none⟩ (.slice mo2 ml mc2)) (some w.heap.size) := one_set _ _ _ _
    have hX2 : (V_25.setCell ⟨w.heap.size, 2, none⟩ (.slice mo2 ml mc2)).heap[w.heap.size]? = some (Obj.cells #[.int .i64 k, .string t, .slice mo2 ml mc2, .slice lo l.length lc, .int .i64 p] 29 (0, 0)) := heap_setCell_same V_25 w.heap.size 2 _ 29 _ hX
    have hMA := hMA.turned29 hgr hX
    have hHD := hHD.turned hgr ⟨Nat.le_refl _, by omega⟩
    generalize V_25.setCell ⟨w.heap.size, 2, none⟩ (.slice mo2 ml mc2) = V_257 at hgr hX2 hMA hHD ⊢
    have hX := hX2
    have hsN := hgr.size
    have hZ : V_257.heap[w.heap.size + 1]? = some (Obj.cells Z5 29 (0, 0)) := (hgr.block _ (by omega) (fun e => by injection e with e; omega)).trans hZ
    have hb : Below w.heap.size w V_257 := hb.grown hgr hb.size (fun k e => by injection e with e; omega)
    have hsV : w.heap.size + 2 ≤ V_257.heap.size := by omega
    clear e2 f2 hgr hX2
    clear hK K
    try simp only [zt,zs,zz,Act.put,zi,zy,zx]
    refine qtk (i := 8) (v := ?v8) rfl rfl (fun w' hw' => ?h8) hHeld ?r8
    case h8 => go_simp; try with_reducible rfl
    simp only [zt,zs,zz,Act.put,zi,zy,zx]
    refine wpAnyH_ready (rs := [9]) (by kernel_rfl) (by simp) ?_
    refine (AllReadyH.cons rfl (fun K hK => ?_) AllReadyH.nil)
    have e2 : V_257.cell? ⟨w.heap.size, 3, none⟩ = some (.slice lo l.length lc) := by rw [Lib.cell_of_heap hX]; rfl
    have f2 : V_257.frozen? ⟨w.heap.size, 3, none⟩ = false := by simp [World.frozen?, hX]
    go_simp
    refine hK.out _ _ trivial (fun hHeld => ?_)
    have hgr : V_257.grownBy (V_257.setCell ⟨w.heap.size, 3, none⟩ (.slice lo2 l.length lc2)) (some w.heap.size) := one_set _ _ _ _
    have hX2 : (V_257.setCell ⟨w.heap.size, 3, none⟩ (.slice lo2 l.length lc2)).heap[w.heap.size]? = some (Obj.cells #[.int .i64 k, .string t, .slice mo2 ml mc2, .slice lo2 l.length lc2, .int .i64 p] 29 (0, 0)) := heap_setCell_same V_257 w.heap.size 3 _ 29 _ hX
    have hMA := hMA.turned29 hgr hX
    have hHD := hHD.turned hgr ⟨Nat.le_refl _, by omega⟩
    generalize V_257.setCell ⟨w.heap.size, 3, none⟩ (.slice lo2 l.length lc2) = V_2579 at hgr hX2 hMA hHD ⊢
    have hX := hX2
    have hsN := hgr.size
    have hZ : V_2579.heap[w.heap.size + 1]? = some (Obj.cells Z5 29 (0, 0)) := (hgr.block _ (by omega) (fun e => by injection e with e; omega)).trans hZ
    have hb : Below w.heap.size w V_2579 := hb.grown hgr hb.size (fun k e => by injection e with e; omega)
    have hsV : w.heap.size + 2 ≤ V_2579.heap.size := by omega
    clear e2 f2 hgr hX2
    clear hK K
    try simp only [zt,zs,zz,Act.put,zi,zy,zx]
    refine wpAnyH_done (by kernel_rfl) ?_ _
    refine NoPanic.normal ?_
    clear hHeld
    exact REST.out _ _ _ _ _ hX hZ hb hMA hHD
   ·skip
    have e3 : V_.cell? ⟨w.heap.size, 3, none⟩ = some (.slice lo l.length lc) := by rw [Lib.cell_of_heap hX]; rfl
    go_simp
    refine hK.out _ _ trivial (fun hHeld => ?_)
    clear e3
    clear hK K
    try simp only [zt,zs,zz,Act.put,zi,zy,zx]
    refine wpAnyH_ready (rs := [2]) (by kernel_rfl) (by simp) ?_
    refine (AllReadyH.cons rfl (fun K hK => ?_) AllReadyH.nil)
    go_simp
    refine (cloneI_any ms _ V_ (HM.out.keeps (Keeps.of_below hb)) HML9.out).mono ?_
    rintro e V_2 ⟨v2, rfl, hN, hbN⟩
    have hMA : MAt (fun x => w.heap.size + 2 ≤ x) V_2 v2 ms := (hN.at (by have := HML9.out; omega)).mono (fun x h => by have : V_.heap.size ≤ x := h; show w.heap.size + 2 ≤ x; omega)
    obtain ⟨mo2, mc2, rfl⟩ := MAt.form2 hMA
    rw [← HML.out] at hMA ⊢
    clear hN
    have hsN := hbN.size
    have hX : V_2.heap[w.heap.size]? = some (Obj.cells #[.int .i64 k, .string t, .slice mo ml mc, .slice lo l.length lc, .int .i64 p] 29 (0, 0)) := (hbN.block _ (by omega)).trans hX
    have hZ : V_2.heap[w.heap.size + 1]? = some (Obj.cells Z5 29 (0, 0)) := (hbN.block _ (by omega)).trans hZ
    have hb : Below w.heap.size w V_2 := hb.trans (hbN.mono (by omega))
    have hsV : w.heap.size + 2 ≤ V_2.heap.size := by omega
    clear hbN
    refine hK.out _ _ trivial (fun hHeld => ?_)
    clear hK K
    try simp only [zt,zs,zz,Act.put,zi,zy,zx]
    refine qtk (i := 6) (v := ?v9) rfl rfl (fun w' hw' => ?h9) hHeld ?r9
    case h9 => go_simp; try with_reducible rfl
    simp only [zt,zs,zz,Act.put,zi,zy,zx]
    refine wpAnyH_ready (rs := [5]) (by kernel_rfl) (by simp) ?_
    refine (AllReadyH.cons rfl (fun K hK => ?_) AllReadyH.nil)
    go_simp
    refine (cloneD_any l _ V_2 (HL.out.keeps (Keeps.of_below hb)) (by omega)).mono ?_
    rintro e V_25 ⟨v5, rfl, hO, hbN⟩
    have hHD : HalfD w.heap.size (w.heap.size + 2) l v5 0 V_25 := OwnDI.half hO (by omega)
    obtain ⟨lo2, lc2, rfl⟩ := hHD.form
    have hMA := hMA.keeps (Keeps.of_below hbN)
    clear hO
    have hsN := hbN.size
    have hX : V_25.heap[w.heap.size]? = some (Obj.cells #[.int .i64 k, .string t, .slice mo ml mc, .slice lo l.length lc, .int .i64 p] 29 (0, 0)) := (hbN.block _ (by omega)).trans hX
    have hZ : V_25.heap[w.heap.size + 1]? = some (Obj.cells Z5 29 (0, 0)) := (hbN.block _ (by omega)).trans hZ
    have hb : Below w.heap.size w V_25 := hb.trans (hbN.mono (by omega))
    have hsV : w.heap.size + 2 ≤ V_25.heap.size := by omega
    clear hbN
    refine hK.out _ _ trivial (fun hHeld => ?_)
    clear hK K
    try simp only [zt,zs,zz,Act.put,zi,zy,zx]
    refine wpAnyH_ready (rs := [7]) (by kernel_rfl) (by simp) ?_
    refine (AllReadyH.cons rfl (fun K hK => ?_) AllReadyH.nil)
    have e2 : V_25.cell? ⟨w.heap.size, 2, none⟩ = some (.slice mo ml mc) := by rw [Lib.cell_of_heap hX]; rfl
    have f2 : V_25.frozen? ⟨w.heap.size, 2, none⟩ = false := by simp [World.frozen?, hX]
    go_simp
    refine hK.out _ _ trivial (fun hHeld => ?_)
    have hgr : V_25.grownBy (V_25.setCell ⟨w.heap.size, 2, none⟩ (.slice mo2 ml mc2)) (some w.heap.size) := one_set _ _ _ _
    have hX2 : (V_25.setCell ⟨w.heap.size, 2, none⟩ (.slice mo2 ml mc2)).heap[w.heap.size]? = some (Obj.cells #[.int .i64 k, .string t, .slice mo2 ml mc2, .slice lo l.length lc, .int .i64 p] 29 (0, 0)) := heap_setCell_same V_25 w.heap.size 2 _ 29 _ hX
    have hMA := hMA.turned29 hgr hX
    have hHD := hHD.turned hgr ⟨Nat.le_refl _, by omega⟩
    generalize V_25.setCell ⟨w.heap.size, 2, none⟩ (.slice mo2 ml mc2) = V_257 at hgr hX2 hMA hHD ⊢
    have hX := hX2
    have hsN := hgr.size
    have hZ : V_257.heap[w.heap.size + 1]? = some (Obj.cells Z5 29 (0, 0)) := (hgr.block _ (by omega) (fun e => by injection e with e; omega)).trans hZ
    have hb : Below w.heap.size w V_257 := hb.grown hgr hb.size (fun k e => by injection e with e; omega)
    have hsV : w.heap.size + 2 ≤ V_257.heap.size := by omega
    clear e2 f2 hgr hX2
    clear hK K
    try simp only [zt,zs,zz,Act.put,zi,zy,zx]
    refine qtk (i := 8) (v := ?v10) rfl rfl (fun w' hw' => ?h10) hHeld ?r10
    case h10 => go_simp; try with_reducible rfl
    simp only [zt,zs,zz,Act.put,zi,zy,zx]
    refine wpAnyH_ready (rs := [9]) (by kernel_rfl) (by simp) ?_
    refine (AllReadyH.cons rfl (fun K hK => ?_) AllReadyH.nil)
    have e2 : V_257.cell? ⟨w.heap.size, 3, none⟩ = some (.slice lo l.length lc) := by rw [Lib.cell_of_heap hX]; rfl
    have f2 : V_257.frozen? ⟨w.heap.size, 3, none⟩ = false := by simp [World.frozen?, hX]
    go_simp
    refine hK.out _ _ trivial (fun hHeld => ?_)
    have hgr : V_257.grownBy (V_257.setCell ⟨w.heap.size, 3, none⟩ (.slice lo2 l.length lc2)) (some w.heap.size) := one_set _ _ _ _
    have hX2 : (V_257.setCell ⟨w.heap.size, 3, none⟩ (.slice lo2 l.length lc2)).heap[w.heap.size]? = some (Obj.cells #[.int .i64 k, .string t, .slice mo2 ml mc2, .slice lo2 l.length lc2, .int .i64 p] 29 (0, 0)) := heap_setCell_same V_257 w.heap.size 3 _ 29 _ hX
    have hMA := hMA.turned29 hgr hX
    have hHD := hHD.turned hgr ⟨Nat.le_refl _, by omega⟩
    generalize V_257.setCell ⟨w.heap.size, 3, none⟩ (.slice lo2 l.length lc2) = V_2579 at hgr hX2 hMA hHD ⊢
    have hX := hX2
    have hsN := hgr.size
    have hZ : V_2579.heap[w.heap.size + 1]? = some (Obj.cells Z5 29 (0, 0)) := (hgr.block _ (by omega) (fun e => by injection e with e; omega)).trans hZ
    have hb : Below w.heap.size w V_2579 := hb.grown hgr hb.size (fun k e => by injection e with e; omega)
    have hsV : w.heap.size + 2 ≤ V_2579.heap.size := by omega
    clear e2 f2 hgr hX2
    clear hK K
    try simp only [zt,zs,zz,Act.put,zi,zy,zx]
    refine wpAnyH_done (by kernel_rfl) ?_ _
    refine NoPanic.normal ?_
    clear hHeld
    exact REST.out _ _ _ _ _ hX hZ hb hMA hHD
  ·skip
   have e3 : V_.cell? ⟨w.heap.size, 3, none⟩ = some (.slice lo l.length lc) := by rw [Lib.cell_of_heap hX]; rfl
   go_simp
   refine hK.out _ _ trivial (fun hHeld => ?_)
   clear e3
   clear hK K
   try simp only [zt,zs,zz,Act.put,zi,zy,zx]
   refine wpAnyH_ready (rs := [1]) (by kernel_rfl) (by simp) ?_
   refine (AllReadyH.cons rfl (fun K hK => ?_) AllReadyH.nil)
   have e2 : V_.cell? ⟨w.heap.size, 2, none⟩ = some (.slice mo ml mc) := by rw [Lib.cell_of_heap hX]; rfl
   go_simp
   refine hK.out _ _ trivial (fun hHeld => ?_)
   clear e2
   clear hK K
   try simp only [zt,zs,zz,Act.put,zi,zy,zx]
   refine wpAnyH_ready (rs := [2]) (by kernel_rfl) (by simp) ?_
   refine (AllReadyH.cons rfl (fun K hK => ?_) AllReadyH.nil)
   go_simp
   refine (cloneI_any ms _ V_ (HM.out.keeps (Keeps.of_below hb)) HML9.out).mono ?_
   rintro e V_2 ⟨v2, rfl, hN, hbN⟩
   have hMA : MAt (fun x => w.heap.size + 2 ≤ x) V_2 v2 ms := (hN.at (by have := HML9.out; omega)).mono (fun x h => by have : V_.heap.size ≤ x := h; show w.heap.size + 2 ≤ x; omega)
   obtain ⟨mo2, mc2, rfl⟩ := MAt.form2 hMA
   rw [← HML.out] at hMA ⊢
   clear hN
   have hsN := hbN.size
   have hX : V_2.heap[w.heap.size]? = some (Obj.cells #[.int .i64 k, .string t, .slice mo ml mc, .slice lo l.length lc, .int .i64 p] 29 (0, 0)) := (hbN.block _ (by omega)).trans hX
   have hZ : V_2.heap[w.heap.size + 1]? = some (Obj.cells Z5 29 (0, 0)) := (hbN.block _ (by omega)).trans hZ
   have hb : Below w.heap.size w V_2 := hb.trans (hbN.mono (by omega))
   have hsV : w.heap.size + 2 ≤ V_2.heap.size := by omega
   clear hbN
   refine hK.out _ _ trivial (fun hHeld => ?_)
   clear hK K
   try simp only [zt,zs,zz,Act.put,zi,zy,zx]
   refine qtk (i := 6) (v := ?v11) rfl rfl (fun w' hw' => ?h11) hHeld ?r11
   case h11 => go_simp; try with_reducible rfl
   simp only [zt,zs,zz,Act.put,zi,zy,zx]
   refine wpAnyH_ready (rs := [5]) (by kernel_rfl) (by simp) ?_
   refine (AllReadyH.cons rfl (fun K hK => ?_) AllReadyH.nil)
   go_simp
   refine (cloneD_any l _ V_2 (HL.out.keeps (Keeps.of_below hb)) (by omega)).mono ?_
   rintro e V_25 ⟨v5, rfl, hO, hbN⟩
   have hHD : HalfD w.heap.size (w.heap.size + 2) l v5 0 V_25 := OwnDI.half hO (by omega)
   obtain ⟨lo2, lc2, rfl⟩ := hHD.form
   have hMA := hMA.keeps (Keeps.of_below hbN)
   clear hO
   have hsN := hbN.size
   have hX : V_25.heap[w.heap.size]? = some (Obj.cells #[.int .i64 k, .string t, .slice mo ml mc, .slice lo l.length lc, .int .i64 p] 29 (0, 0)) := (hbN.block _ (by omega)).trans hX
   have hZ : V_25.heap[w.heap.size + 1]? = some (Obj.cells Z5 29 (0, 0)) := (hbN.block _ (by omega)).trans hZ
   have hb : Below w.heap.size w V_25 := hb.trans (hbN.mono (by omega))
   have hsV : w.heap.size + 2 ≤ V_25.heap.size := by omega
   clear hbN
   refine hK.out _ _ trivial (fun hHeld => ?_)
   clear hK K
   try simp only [zt,zs,zz,Act.put,zi,zy,zx]
   refine wpAnyH_ready (rs := [7]) (by kernel_rfl) (by simp) ?_
   refine (AllReadyH.cons rfl (fun K hK => ?_) AllReadyH.nil)
   have e2 : V_25.cell? ⟨w.heap.size, 2, none⟩ = some (.slice mo ml mc) := by rw [Lib.cell_of_heap hX]; rfl
   have f2 : V_25.frozen? ⟨w.heap.size, 2, none⟩ = false := by simp [World.frozen?, hX]
   go_simp
   refine hK.out _ _ trivial (fun hHeld => ?_)
   have hgr : V_25.grownBy (V_25.setCell ⟨w.heap.size, 2, none⟩ (.slice mo2 ml mc2)) (some w.heap.size) := one_set _ _ _ _
   have hX2 : (V_25.setCell ⟨w.heap.size, 2, none⟩ (.slice mo2 ml mc2)).heap[w.heap.size]? = some (Obj.cells #[.int .i64 k, .string t, .slice mo2 ml mc2, .slice lo l.length lc, .int .i64 p] 29 (0, 0)) := heap_setCell_same V_25 w.heap.size 2 _ 29 _ hX
   have hMA := hMA.turned29 hgr hX
   have hHD := hHD.turned hgr ⟨Nat.le_refl _, by omega⟩
   generalize V_25.setCell ⟨w.heap.size, 2, none⟩ (.slice mo2 ml mc2) = V_257 at hgr hX2 hMA hHD ⊢
   have hX := hX2
   have hsN := hgr.size
   have hZ : V_257.heap[w.heap.size + 1]? = some (Obj.cells Z5 29 (0, 0)) := (hgr.block _ (by omega) (fun e => by injection e with e; omega)).trans hZ
   have hb : Below w.heap.size w V_257 := hb.grown hgr hb.size (fun k e => by injection e with e; omega)
   have hsV : w.heap.size + 2 ≤ V_257.heap.size := by omega
   clear e2 f2 hgr hX2
   clear hK K
   try simp only [zt,zs,zz,Act.put,zi,zy,zx]
   refine qtk (i := 8) (v := ?v12) rfl rfl (fun w' hw' => ?h12) hHeld ?r12
   case h12 => go_simp; try with_reducible rfl
   simp only [zt,zs,zz,Act.put,zi,zy,zx]
   refine wpAnyH_ready (rs := [9]) (by kernel_rfl) (by simp) ?_
   refine (AllReadyH.cons rfl (fun K hK => ?_) AllReadyH.nil)
   have e2 : V_257.cell? ⟨w.heap.size, 3, none⟩ = some (.slice lo l.length lc) := by rw [Lib.cell_of_heap hX]; rfl
   have f2 : V_257.frozen? ⟨w.heap.size, 3, none⟩ = false := by simp [World.frozen?, hX]
   go_simp
   refine hK.out _ _ trivial (fun hHeld => ?_)
   have hgr : V_257.grownBy (V_257.setCell ⟨w.heap.size, 3, none⟩ (.slice lo2 l.length lc2)) (some w.heap.size) := one_set _ _ _ _
   have hX2 : (V_257.setCell ⟨w.heap.size, 3, none⟩ (.slice lo2 l.length lc2)).heap[w.heap.size]? = some (Obj.cells #[.int .i64 k, .string t, .slice mo2 ml mc2, .slice lo2 l.length lc2, .int .i64 p] 29 (0, 0)) := heap_setCell_same V_257 w.heap.size 3 _ 29 _ hX
   have hMA := hMA.turned29 hgr hX
   have hHD := hHD.turned hgr ⟨Nat.le_refl _, by omega⟩
   generalize V_257.setCell ⟨w.heap.size, 3, none⟩ (.slice lo2 l.length lc2) = V_2579 at hgr hX2 hMA hHD ⊢
   have hX := hX2
   have hsN := hgr.size
   have hZ : V_2579.heap[w.heap.size + 1]? = some (Obj.cells Z5 29 (0, 0)) := (hgr.block _ (by omega) (fun e => by injection e with e; omega)).trans hZ
   have hb : Below w.heap.size w V_2579 := hb.grown hgr hb.size (fun k e => by injection e with e; omega)
   have hsV : w.heap.size + 2 ≤ V_2579.heap.size := by omega
   clear e2 f2 hgr hX2
   clear hK K
   try simp only [zt,zs,zz,Act.put,zi,zy,zx]
   refine wpAnyH_done (by kernel_rfl) ?_ _
   refine NoPanic.normal ?_
   clear hHeld
   exact REST.out _ _ _ _ _ hX hZ hb hMA hHD
end Go.Proofs.Ytecljchifebljaa
