/- Rules: the program's own, of a row whose bindings have no rows. -/
import Derived.Test.YtecljchifebljaaYAA
import Derived.Test.YtecljchifebljaaYAC
import Derived.Test.YtecljchifebljaaCP1
set_option linter.unusedVariables false
set_option linter.unusedSimpArgs false
namespace Go.Proofs.Ytecljchifebljaa
open Go Go.RowKit
attribute [local go_sem] Oper.semAt_some
theorem own_zero (ao : Option Addr) (c : Nat) (w : World) : Calls Try.prog 54 #[.slice ao 0 c] w fun e w' => e = .returned (.tuple #[]) ∧ w' = w := by
 go_enter Try.func54, Try.ntmps54
 go_wp2
 go_loopw [5] (fun iv wr => iv = .int .i64 0 ∧ wr = w) (fun _ _ => 0)
 case atStart => exact ⟨rfl, rfl⟩
 case round =>
  obtain ⟨rfl, rfl⟩ := hrel
  go_wp2
  exact ⟨rfl, .tuple #[], by simp [results, Try.f54, go_sem], rfl, rfl⟩
/-- A row of bindings, the first j of which are copied (to blocks from N on). -/
def HalfO (N g : Nat) (bs : List Bd) (j : Nat) (W : World) : Prop :=
 ∃ cur, W.heap[g]? = some (Obj.cells cur 60 (0, 0)) ∧ bs.length * 12 ≤ cur.size ∧ ∀ i (h : i < bs.length), ∃ n5 d5 : Array Value, (∀ t, t < 5 → cur[12 * i + t]? = n5[t]?) ∧ cur[12 * i + 5]? = some (.int .i64 bs[i].deep) ∧ (∀ t, t < 5 → cur[12 * i + 6 + t]? = d5[t]?) ∧ (∃ ao c, cur[12 * i + 11]? = some (.slice ao 0 c)) ∧
  (i < j → Dt.At (fun x => N ≤ x) W bs[i].name n5 ∧ Dt.At (fun x => N ≤ x) W bs[i].dat d5) ∧ (j ≤ i → Dt.At (fun x => x < N ∧ x ≠ g) W bs[i].name n5 ∧ Dt.At (fun x => x < N ∧ x ≠ g) W bs[i].dat d5)
theorem HalfO.below {N g : Nat} {bs : List Bd} {j : Nat} {W W' : World} (h : HalfO N g bs j W) (hb : Below W.heap.size W W') : HalfO N g bs j W' := by
 obtain ⟨cur, h1, h2, h3⟩ := h
 refine ⟨cur, (hb.block _ (Array.getElem?_eq_some_iff.1 h1).1).trans h1, h2, fun i hi => ?_⟩
 obtain ⟨n5, d5, a1, a2, a3, a4, a5, a6⟩ := h3 i hi
 exact ⟨n5, d5, a1, a2, a3, a4, fun h => ⟨Dt.At.keeps (Keeps.of_below hb) _ _ (a5 h).1, Dt.At.keeps (Keeps.of_below hb) _ _ (a5 h).2⟩, fun h => ⟨Dt.At.keeps (Keeps.of_below hb) _ _ (a6 h).1, Dt.At.keeps (Keeps.of_below hb) _ _ (a6 h).2⟩⟩
/-- Five cells of a row of a type are written. -/
theorem five_setT (T : TypeId) (W : World) (g b : Nat) (cur : Array Value) (u0 u1 u2 u3 u4 : Value) (hg : W.heap[g]? = some (Obj.cells cur T (0, 0))) (hb : b + 5 ≤ cur.size) :
  ∃ cur', (((((W.setCell ⟨g, b, none⟩ u0).setCell ⟨g, b + 1, none⟩ u1).setCell ⟨g, b + 2, none⟩ u2).setCell ⟨g, b + 3, none⟩ u3).setCell ⟨g, b + 4, none⟩ u4).heap[g]? = some (Obj.cells cur' T (0, 0)) ∧ cur'.size = cur.size ∧ (∀ t, t < 5 → cur'[b + t]? = #[u0, u1, u2, u3, u4][t]?) ∧ (∀ i, (i < b ∨ b + 5 ≤ i) → cur'[i]? = cur[i]?) ∧
   W.grownBy (((((W.setCell ⟨g, b, none⟩ u0).setCell ⟨g, b + 1, none⟩ u1).setCell ⟨g, b + 2, none⟩ u2).setCell ⟨g, b + 3, none⟩ u3).setCell ⟨g, b + 4, none⟩ u4) (some g) := by
 have h1 := heap_setCell_same W g b cur T u0 hg
 have h2 := heap_setCell_same _ g (b + 1) _ T u1 h1
 have h3 := heap_setCell_same _ g (b + 2) _ T u2 h2
 have h4 := heap_setCell_same _ g (b + 3) _ T u3 h3
 have h5 := heap_setCell_same _ g (b + 4) _ T u4 h4
 refine ⟨_, h5, by simp only [Array.size_setIfInBounds], fun t ht => ?_, fun i hi => ?_, ?_⟩
 ·rcases (show t = 0 ∨ t = 1 ∨ t = 2 ∨ t = 3 ∨ t = 4 by omega) with rfl | rfl | rfl | rfl | rfl
  ·rw [Array.getElem?_setIfInBounds_ne (by omega), Array.getElem?_setIfInBounds_ne (by omega), Array.getElem?_setIfInBounds_ne (by omega), Array.getElem?_setIfInBounds_ne (by omega), Nat.add_zero]; rw [Array.getElem?_setIfInBounds_self_of_lt (by omega)]; rfl
  ·rw [Array.getElem?_setIfInBounds_ne (by omega), Array.getElem?_setIfInBounds_ne (by omega), Array.getElem?_setIfInBounds_ne (by omega)]; rw [Array.getElem?_setIfInBounds_self_of_lt (by simp only [Array.size_setIfInBounds]; omega)]; rfl
  ·rw [Array.getElem?_setIfInBounds_ne (by omega), Array.getElem?_setIfInBounds_ne (by omega)]; rw [Array.getElem?_setIfInBounds_self_of_lt (by simp only [Array.size_setIfInBounds]; omega)]; rfl
  ·rw [Array.getElem?_setIfInBounds_ne (by omega)]; rw [Array.getElem?_setIfInBounds_self_of_lt (by simp only [Array.size_setIfInBounds]; omega)]; rfl
  ·rw [Array.getElem?_setIfInBounds_self_of_lt (by simp only [Array.size_setIfInBounds]; omega)]; rfl
 ·rw [Array.getElem?_setIfInBounds_ne (by omega), Array.getElem?_setIfInBounds_ne (by omega), Array.getElem?_setIfInBounds_ne (by omega), Array.getElem?_setIfInBounds_ne (by omega), Array.getElem?_setIfInBounds_ne (by omega)]
 ·exact grown_same (grown_same (grown_same (grown_same (one_set _ g b u0) (one_set _ g (b + 1) u1)) (one_set _ g (b + 2) u2)) (one_set _ g (b + 3) u3)) (one_set _ g (b + 4) u4)
/-- The j-th binding's name and datum are written. -/
theorem HalfO.step {N g : Nat} {bs : List Bd} {j : Nat} {W : World} (h : HalfO N g bs j W) (hgN : g < N) (hj : j < bs.length) {u0 u1 u2 u3 u4 v0 v1 v2 v3 v4 : Value} {W1 W2 : World}
  (e1 : W1 = (((((W.setCell ⟨g, j * 12, none⟩ u0).setCell ⟨g, j * 12 + 1, none⟩ u1).setCell ⟨g, j * 12 + 2, none⟩ u2).setCell ⟨g, j * 12 + 3, none⟩ u3).setCell ⟨g, j * 12 + 4, none⟩ u4))
  (e2 : W2 = (((((W1.setCell ⟨g, j * 12 + 6, none⟩ v0).setCell ⟨g, j * 12 + 7, none⟩ v1).setCell ⟨g, j * 12 + 8, none⟩ v2).setCell ⟨g, j * 12 + 9, none⟩ v3).setCell ⟨g, j * 12 + 10, none⟩ v4))
  (hn : Dt.At (fun x => N ≤ x) W bs[j].name #[u0, u1, u2, u3, u4]) (hd : Dt.At (fun x => N ≤ x) W bs[j].dat #[v0, v1, v2, v3, v4]) : HalfO N g bs (j + 1) W2 ∧ W.grownBy W1 (some g) ∧ W.grownBy W2 (some g) := by
 obtain ⟨cur, h1, h2, h3⟩ := h
 obtain ⟨c1, x1, s1, t1, o1, g1⟩ := five_setT 60 W g (j * 12) cur u0 u1 u2 u3 u4 h1 (by omega)
 rw [← e1] at x1 g1
 obtain ⟨c2, x2, s2, t2, o2, g2⟩ := five_setT 60 W1 g (j * 12 + 6) c1 v0 v1 v2 v3 v4 x1 (by omega)
 have g2 : W1.grownBy W2 (some g) := by rw [e2]; exact g2
 have x2 : W2.heap[g]? = some (Obj.cells c2 60 (0, 0)) := by rw [e2]; exact x2
 have g3 := grown_same g1 g2
 refine ⟨⟨c2, x2, by omega, fun i hi => ?_⟩, g1, g3⟩
 have hkN : Keeps (fun x => N ≤ x) W W2 := fun x c T fz hs hx _ => ⟨fz, (g3.block x (Array.getElem?_eq_some_iff.1 hx).1 (fun e => by injection e with e; have : N ≤ x := hs; omega)).trans hx⟩
 have hkg : Keeps (fun x => x < N ∧ x ≠ g) W W2 := fun x c T fz hs hx _ => ⟨fz, (g3.block x (Array.getElem?_eq_some_iff.1 hx).1 (fun e => by injection e with e; exact hs.2 e)).trans hx⟩
 obtain ⟨n5, d5, a1, a2, a3, a4, a5, a6⟩ := h3 i hi
 by_cases hij : i = j
 ·subst hij
  refine ⟨#[u0, u1, u2, u3, u4], #[v0, v1, v2, v3, v4], fun t ht => ?_, ?_, fun t ht => ?_, ?_, fun _ => ⟨Dt.At.keeps hkN _ _ hn, Dt.At.keeps hkN _ _ hd⟩, fun h => absurd h (by omega)⟩
  ·rw [o2 _ (by omega), Nat.mul_comm 12 i]; exact t1 t ht
  ·rw [o2 _ (by omega), o1 _ (by omega)]; exact a2
  ·rw [Nat.mul_comm 12 i]; exact t2 t ht
  ·obtain ⟨ao, c, a4⟩ := a4
   exact ⟨ao, c, by rw [o2 _ (by omega), o1 _ (by omega)]; exact a4⟩
 ·refine ⟨n5, d5, fun t ht => ?_, ?_, fun t ht => ?_, ?_, fun h => ?_, fun h => ?_⟩
  ·rw [o2 _ (by omega), o1 _ (by omega)]; exact a1 t ht
  ·rw [o2 _ (by omega), o1 _ (by omega)]; exact a2
  ·rw [o2 _ (by omega), o1 _ (by omega)]; exact a3 t ht
  ·obtain ⟨ao, c, a4⟩ := a4
   exact ⟨ao, c, by rw [o2 _ (by omega), o1 _ (by omega)]; exact a4⟩
  ·exact ⟨Dt.At.keeps hkN _ _ (a5 (by omega)).1, Dt.At.keeps hkN _ _ (a5 (by omega)).2⟩
  ·exact ⟨Dt.At.keeps hkg _ _ (a6 (by omega)).1, Dt.At.keeps hkg _ _ (a6 (by omega)).2⟩
def RetOwn (N g : Nat) (bs : List Bd) (w : World) (e : Ending) (w' : World) : Prop := e = .returned (.tuple #[]) ∧ HalfO N g bs bs.length w' ∧ w.grownBy w' (some g)
def OwInv (w : World) (g : Nat) (bs : List Bd) (iv : Value) (W : World) : Prop := ∃ j : Nat, j ≤ bs.length ∧ iv = .int .i64 (j : Int) ∧ HalfO w.heap.size g bs j W ∧ w.grownBy W (some g)
set_option maxHeartbeats 16000000 in
set_option maxRecDepth 100000 in
theorem own_flat (bs : List Bd) (g cap : Nat) (w : World) (h : HalfO w.heap.size g bs 0 w) (hl : bs.length ≤ 1000000) (hz : ∀ b ∈ bs, b.name.size ≤ 1000000 ∧ b.dat.size ≤ 1000000) : Calls Try.prog 54 #[.slice (some ⟨g, 0, none⟩) bs.length cap] w (RetOwn w.heap.size g bs w) := by
 have HH := Lib.hid h
 have HZ := Lib.hid hz
 have hgw : g < w.heap.size := by obtain ⟨_, h1, _⟩ := h; exact (Array.getElem?_eq_some_iff.1 h1).1
 clear h hz
 go_enter Try.func54, Try.ntmps54
 go_wp2_with fail
 go_loopw [5] (fun iv wr => OwInv w g bs iv wr) (fun iv _ => bs.length - (intOf iv).toNat)
 case atStart => exact ⟨0, Nat.zero_le _, rfl, HH.out, ⟨rfl, rfl, rfl, Nat.le_refl _, fun _ _ _ => rfl⟩⟩
 case round =>
  obtain ⟨j, hj, rfl, hHO, hgr⟩ := hrel
  have HHO := Lib.hid hHO
  have HGR := Lib.hid hgr
  have hsr := hgr.size
  by_cases hlt : j < bs.length
  ·have q1 : decide ((j : Int) < (bs.length : Int)) = true := decide_eq_true (by omega)
   obtain ⟨cur, x1, x2, x3⟩ := hHO
   obtain ⟨n5, d5, a1, a2, a3, ⟨ao9, cc9, a4⟩, _, a6⟩ := x3 j hlt
   obtain ⟨hna, hda⟩ := a6 (Nat.le_refl _)
   obtain ⟨k1, t1, a1', b1, c1, d1, e1, f1, p1, rfl⟩ := At_slices hna
   obtain ⟨k2, t2, a2', b2, c2, d2, e2, f2, p2, rfl⟩ := At_slices hda
   obtain ⟨bj, hbj⟩ : ∃ b, b = bs[j] := ⟨_, rfl⟩
   have hzj := HZ.out bs[j] (List.getElem_mem hlt)
   rw [← hbj] at hna hda hzj
   have off12 : ∀ (c T fz), wr.heap[g]? = some (Obj.cells c T fz) → ∀ t, wr.cell? ⟨g, j * 12 + t, none⟩ = c[12 * j + t]? := fun c T fz h t => by rw [Lib.cell_of_heap h, Nat.mul_comm]
   have CN : Hid (∀ V : World, V.heap[g]? = some (Obj.cells cur 60 (0, 0)) → (V.cell? ⟨g, j * 12, none⟩ = some (.int .i64 k1) ∧ V.cell? ⟨g, j * 12 + 1, none⟩ = some (.string t1) ∧ V.cell? ⟨g, j * 12 + 2, none⟩ = some (.slice a1' b1 c1) ∧ V.cell? ⟨g, j * 12 + 3, none⟩ = some (.slice d1 e1 f1) ∧ V.cell? ⟨g, j * 12 + 4, none⟩ = some (.int .i64 p1)) ∧
     (V.cell? ⟨g, j * 12 + 6, none⟩ = some (.int .i64 k2) ∧ V.cell? ⟨g, j * 12 + 7, none⟩ = some (.string t2) ∧ V.cell? ⟨g, j * 12 + 8, none⟩ = some (.slice a2' b2 c2) ∧ V.cell? ⟨g, j * 12 + 9, none⟩ = some (.slice d2 e2 f2) ∧ V.cell? ⟨g, j * 12 + 10, none⟩ = some (.int .i64 p2))) := by
    intro V h
    have A := a1; have D := a3
    rw [Nat.mul_comm 12 j] at A D
    refine ⟨⟨?_, ?_, ?_, ?_, ?_⟩, ?_, ?_, ?_, ?_, ?_⟩ <;> rw [Lib.cell_of_heap h]
    ·exact A 0 (by decide)
    ·exact A 1 (by decide)
    ·exact A 2 (by decide)
    ·exact A 3 (by decide)
    ·exact A 4 (by decide)
    ·exact D 0 (by decide)
    ·exact D 1 (by decide)
    ·exact D 2 (by decide)
    ·exact D 3 (by decide)
    ·exact D 4 (by decide)
   have c11 : cur[j * 12 + 11]? = some (.slice ao9 0 cc9) := by rw [Nat.mul_comm]; exact a4
   have HC11 := Lib.hid c11
   have HNA := Lib.hid hna
   have HDA := Lib.hid hda
   have HBJ := Lib.hid hbj
   have hx0 : wr.drew.heap[g]? = some (Obj.cells cur 60 (0, 0)) := x1
   have hbV : Below wr.heap.size wr wr.drew := (Below.refl _ _).drew
   clear a1 a2 a3 a4 a6 x3 hna hda hgr c11 off12 hbj
   go_upto_region 3 with fail
   refine wp_region_noPanic ?_
   refine wp_region_held_drew (S := fun _ => True) (by kernel_rfl) trivial (fun hHeld => ?_)
   generalize wr.drew = V_ at hx0 hbV ⊢
   have hx := hx0
   have hb := hbV
   have hsV := hb.size
   clear hHeld hx0 hbV
   have hHeld : True := trivial
   refine qts [0, 1, 2, 3, 4, 5, 6, 7, 10, 11, 12, 13] hHeld ?_
   iterate 12 (refine qtc (v := ?_) rfl rfl (fun w' hw' => ?_) ?_; rotate_left; (focus (go_simp; try with_reducible rfl)); simp only [zt,zs,zz,Act.put,zi,zy,zx])
   refine qtn ?_
   simp only [zt,zs,zz,Act.put,zi,zy,zx,qzl,qzn,qza,Nat.reduceAdd,Nat.reduceSub]
   refine wpAnyH_ready (rs := [8, 14]) (by kernel_rfl) (by simp) ?_
   refine (AllReadyH.cons rfl (fun K hK => ?_) (AllReadyH.cons rfl (fun K hK => ?_) AllReadyH.nil))
   ·skip
    obtain ⟨⟨q0, q9, q2, q3, q4⟩, _⟩ := CN.out V_ hx
    go_simp
    refine hK.out _ _ trivial (fun hHeld => ?_)
    clear q0 q9 q2 q3 q4
    clear hK K
    try simp only [zt,zs,zz,Act.put,zi,zy,zx]
    refine wpAnyH_ready (rs := [9, 14]) (by kernel_rfl) (by simp) ?_
    refine (AllReadyH.cons rfl (fun K hK => ?_) (AllReadyH.cons rfl (fun K hK => ?_) AllReadyH.nil))
    ·skip
     go_simp
     refine (copied_any 1000000 (Nat.le_refl _) _ hzj.1 _ V_ ((Dt.At.keeps (Keeps.of_below hb) _ _ HNA.out).mono (fun x h => by have := h.1; show x < V_.heap.size; omega))).mono ?_
     rintro e V_9 ⟨cz, rfl, hwz, hbN⟩
     obtain ⟨w0, w1, wa, wb, wc, wd, we, wf, w4, rfl⟩ := At_slices hwz
     have hsN := hbN.size
     have hx : V_9.heap[g]? = some (Obj.cells cur 60 (0, 0)) := (hbN.block _ (by omega)).trans hx
     have hwz := hwz.mono (T := fun x => w.heap.size ≤ x) (fun x h => by have : V_.heap.size ≤ x := h; show w.heap.size ≤ x; omega)
     have hb : Below wr.heap.size wr V_9 := hb.trans (hbN.mono (by omega))
     have hsV : wr.heap.size ≤ V_9.heap.size := hb.size
     clear hbN
     refine hK.out _ _ trivial (fun hHeld => ?_)
     clear hK K
     try simp only [zt,zs,zz,Act.put,zi,zy,zx]
     refine wpAnyH_ready (rs := [14]) (by kernel_rfl) (by simp) ?_
     refine (AllReadyH.cons rfl (fun K hK => ?_) AllReadyH.nil)
     obtain ⟨_, q0, q9, q2, q3, q4⟩ := CN.out V_9 hx
     go_simp
     refine hK.out _ _ trivial (fun hHeld => ?_)
     clear q0 q9 q2 q3 q4
     clear hK K
     try simp only [zt,zs,zz,Act.put,zi,zy,zx]
     refine wpAnyH_ready (rs := [15]) (by kernel_rfl) (by simp) ?_
     refine (AllReadyH.cons rfl (fun K hK => ?_) AllReadyH.nil)
     go_simp
     refine (copied_any 1000000 (Nat.le_refl _) _ hzj.2 _ V_9 ((Dt.At.keeps (Keeps.of_below hb) _ _ HDA.out).mono (fun x h => by have := h.1; show x < V_9.heap.size; omega))).mono ?_
     rintro e V_159 ⟨cz, rfl, hzz, hbN⟩
     obtain ⟨z0, z1, za, zb, zc, zd, ze, zf, z4, rfl⟩ := At_slices hzz
     have hsN := hbN.size
     have hx : V_159.heap[g]? = some (Obj.cells cur 60 (0, 0)) := (hbN.block _ (by omega)).trans hx
     have hzz := hzz.mono (T := fun x => w.heap.size ≤ x) (fun x h => by have : V_9.heap.size ≤ x := h; show w.heap.size ≤ x; omega)
     have hwz := Dt.At.keeps (Keeps.of_below hbN) _ _ hwz
     have hb : Below wr.heap.size wr V_159 := hb.trans (hbN.mono (by omega))
     have hsV : wr.heap.size ≤ V_159.heap.size := hb.size
     clear hbN
     refine hK.out _ _ trivial (fun hHeld => ?_)
     clear hK K
     try simp only [zt,zs,zz,Act.put,zi,zy,zx]
     refine qtk (i := 16) (v := ?v12) rfl rfl (fun w' hw' => ?h12) hHeld ?r12
     case h12 => go_simp; try with_reducible rfl
     simp only [zt,zs,zz,Act.put,zi,zy,zx]
     refine qtk (i := 17) (v := ?v13) rfl rfl (fun w' hw' => ?h13) hHeld ?r13
     case h13 => go_simp; try with_reducible rfl
     simp only [zt,zs,zz,Act.put,zi,zy,zx]
     refine wpAnyH_ready (rs := [18]) (by kernel_rfl) (by simp) ?_
     refine (AllReadyH.cons rfl (fun K hK => ?_) AllReadyH.nil)
     obtain ⟨⟨q0, q9, q2, q3, q4⟩, r0, r1, r2, r3, r4⟩ := CN.out V_159 hx
     have f0 : V_159.frozen? ⟨g, j * 12, none⟩ = false := by simp [World.frozen?, hx]
     have f1 : V_159.frozen? ⟨g, j * 12 + 1, none⟩ = false := by simp [World.frozen?, hx]
     have f2 : V_159.frozen? ⟨g, j * 12 + 2, none⟩ = false := by simp [World.frozen?, hx]
     have f3 : V_159.frozen? ⟨g, j * 12 + 3, none⟩ = false := by simp [World.frozen?, hx]
     have f4 : V_159.frozen? ⟨g, j * 12 + 4, none⟩ = false := by simp [World.frozen?, hx]
     go_simp
     refine hK.out _ _ trivial (fun hHeld => ?_)
     obtain ⟨Y1, hY1⟩ : ∃ Y, Y = (((((V_159.setCell ⟨g, j * 12, none⟩ (.int .i64 w0)).setCell ⟨g, j * 12 + 1, none⟩ (.string w1)).setCell ⟨g, j * 12 + 2, none⟩ (.slice wa wb wc)).setCell ⟨g, j * 12 + 3, none⟩ (.slice wd we wf)).setCell ⟨g, j * 12 + 4, none⟩ (.int .i64 w4)) := ⟨_, rfl⟩
     have hx1 : Y1.heap[g]? = some (Obj.cells (((((cur.setIfInBounds (j * 12) (.int .i64 w0)).setIfInBounds (j * 12 + 1) (.string w1)).setIfInBounds (j * 12 + 2) (.slice wa wb wc)).setIfInBounds (j * 12 + 3) (.slice wd we wf)).setIfInBounds (j * 12 + 4) (.int .i64 w4)) 60 (0, 0)) := by rw [hY1]; exact heap_setCell_same _ g (j * 12 + 4) _ 60 _ (heap_setCell_same _ g (j * 12 + 3) _ 60 _ (heap_setCell_same _ g (j * 12 + 2) _ 60 _ (heap_setCell_same _ g (j * 12 + 1) _ 60 _ (heap_setCell_same _ g (j * 12) _ 60 _ hx))))
     rw [← hY1]
     have HY1 := Lib.hid hY1
     clear hY1
     have s0 : Y1.cell? ⟨g, j * 12 + 6, none⟩ = cur[j * 12 + 6]? := by rw [Lib.cell_of_heap hx1, Array.getElem?_setIfInBounds_ne (by omega), Array.getElem?_setIfInBounds_ne (by omega), Array.getElem?_setIfInBounds_ne (by omega), Array.getElem?_setIfInBounds_ne (by omega), Array.getElem?_setIfInBounds_ne (by omega)]
     have s1 : Y1.cell? ⟨g, j * 12 + 7, none⟩ = cur[j * 12 + 7]? := by rw [Lib.cell_of_heap hx1, Array.getElem?_setIfInBounds_ne (by omega), Array.getElem?_setIfInBounds_ne (by omega), Array.getElem?_setIfInBounds_ne (by omega), Array.getElem?_setIfInBounds_ne (by omega), Array.getElem?_setIfInBounds_ne (by omega)]
     have s2 : Y1.cell? ⟨g, j * 12 + 8, none⟩ = cur[j * 12 + 8]? := by rw [Lib.cell_of_heap hx1, Array.getElem?_setIfInBounds_ne (by omega), Array.getElem?_setIfInBounds_ne (by omega), Array.getElem?_setIfInBounds_ne (by omega), Array.getElem?_setIfInBounds_ne (by omega), Array.getElem?_setIfInBounds_ne (by omega)]
     have s3 : Y1.cell? ⟨g, j * 12 + 9, none⟩ = cur[j * 12 + 9]? := by rw [Lib.cell_of_heap hx1, Array.getElem?_setIfInBounds_ne (by omega), Array.getElem?_setIfInBounds_ne (by omega), Array.getElem?_setIfInBounds_ne (by omega), Array.getElem?_setIfInBounds_ne (by omega), Array.getElem?_setIfInBounds_ne (by omega)]
     have s4 : Y1.cell? ⟨g, j * 12 + 10, none⟩ = cur[j * 12 + 10]? := by rw [Lib.cell_of_heap hx1, Array.getElem?_setIfInBounds_ne (by omega), Array.getElem?_setIfInBounds_ne (by omega), Array.getElem?_setIfInBounds_ne (by omega), Array.getElem?_setIfInBounds_ne (by omega), Array.getElem?_setIfInBounds_ne (by omega)]
     have v0 := (Lib.cell_of_heap hx _).symm.trans r0
     have v1 := (Lib.cell_of_heap hx _).symm.trans r1
     have v2 := (Lib.cell_of_heap hx _).symm.trans r2
     have v3 := (Lib.cell_of_heap hx _).symm.trans r3
     have v4 := (Lib.cell_of_heap hx _).symm.trans r4
     rw [show cur[j * 12 + 6]? = _ from v0] at s0
     rw [show cur[j * 12 + 7]? = _ from v1] at s1
     rw [show cur[j * 12 + 8]? = _ from v2] at s2
     rw [show cur[j * 12 + 9]? = _ from v3] at s3
     rw [show cur[j * 12 + 10]? = _ from v4] at s4
     clear q0 q9 q2 q3 q4 r0 r1 r2 r3 r4 v0 v1 v2 v3 v4 f0 f1 f2 f3 f4
     clear hK K
     try simp only [zt,zs,zz,Act.put,zi,zy,zx]
     refine qtk (i := 19) (v := ?v14) rfl rfl (fun w' hw' => ?h14) hHeld ?r14
     case h14 => go_simp; try with_reducible rfl
     simp only [zt,zs,zz,Act.put,zi,zy,zx]
     refine qtk (i := 20) (v := ?v15) rfl rfl (fun w' hw' => ?h15) hHeld ?r15
     case h15 => go_simp; try with_reducible rfl
     simp only [zt,zs,zz,Act.put,zi,zy,zx]
     refine wpAnyH_ready (rs := [21]) (by kernel_rfl) (by simp) ?_
     refine (AllReadyH.cons rfl (fun K hK => ?_) AllReadyH.nil)
     have f0 : Y1.frozen? ⟨g, j * 12 + 6, none⟩ = false := by simp [World.frozen?, hx1]
     have f1 : Y1.frozen? ⟨g, j * 12 + 7, none⟩ = false := by simp [World.frozen?, hx1]
     have f2 : Y1.frozen? ⟨g, j * 12 + 8, none⟩ = false := by simp [World.frozen?, hx1]
     have f3 : Y1.frozen? ⟨g, j * 12 + 9, none⟩ = false := by simp [World.frozen?, hx1]
     have f4 : Y1.frozen? ⟨g, j * 12 + 10, none⟩ = false := by simp [World.frozen?, hx1]
     go_simp
     refine hK.out _ _ trivial (fun hHeld => ?_)
     obtain ⟨Y2, hY2⟩ : ∃ Y, Y = (((((Y1.setCell ⟨g, j * 12 + 6, none⟩ (.int .i64 z0)).setCell ⟨g, j * 12 + 7, none⟩ (.string z1)).setCell ⟨g, j * 12 + 8, none⟩ (.slice za zb zc)).setCell ⟨g, j * 12 + 9, none⟩ (.slice zd ze zf)).setCell ⟨g, j * 12 + 10, none⟩ (.int .i64 z4)) := ⟨_, rfl⟩
     have hH9 := HHO.out.below hb
     obtain ⟨hst, hg1, hg2⟩ := hH9.step hgw hlt HY1.out hY2 (by rw [← HBJ.out]; exact hwz) (by rw [← HBJ.out]; exact hzz)
     rw [← hY2]
     have hy11 : ∃ ao c, Y2.cell? ⟨g, j * 12 + 11, none⟩ = some (.slice ao 0 c) := by obtain ⟨c2, x2, _, x3⟩ := hst; obtain ⟨_, _, _, _, _, ⟨ao, c, x4⟩, _⟩ := x3 j hlt; exact ⟨ao, c, by rw [Lib.cell_of_heap x2, Nat.mul_comm]; exact x4⟩
     obtain ⟨ao8, cc8, y11⟩ := hy11
     have HST := Lib.hid hst
     have HG9 := Lib.hid (grown_same HGR.out (grown_same (Below.grownRow hb (some g)) hg2))
     clear hst hg1 hg2 hH9 hY2 HY1 hx1 s0 s1 s2 s3 s4 f0 f1 f2 f3 f4 hwz hzz hx hb
     clear hK K
     try simp only [zt,zs,zz,Act.put,zi,zy,zx]
     refine wpAnyH_done (by kernel_rfl) ?_ _
     refine NoPanic.normal ?_
     clear hHeld
     go_wp2_with fail
     refine (own_zero ao8 cc8 Y2).mono ?_
     rintro e w9 ⟨rfl, rfl⟩
     clear y11
     go_wp2_with fail
     go_roundw
     case rel => exact ⟨j + 1, by omega, by go_num, HST.out, HG9.out⟩
     case measure => simp [intOf]; omega
    ·skip
     obtain ⟨_, q0, q9, q2, q3, q4⟩ := CN.out V_ hx
     go_simp
     refine hK.out _ _ trivial (fun hHeld => ?_)
     clear q0 q9 q2 q3 q4
     clear hK K
     try simp only [zt,zs,zz,Act.put,zi,zy,zx]
     refine wpAnyH_ready (rs := [9]) (by kernel_rfl) (by simp) ?_
     refine (AllReadyH.cons rfl (fun K hK => ?_) AllReadyH.nil)
     go_simp
     refine (copied_any 1000000 (Nat.le_refl _) _ hzj.1 _ V_ ((Dt.At.keeps (Keeps.of_below hb) _ _ HNA.out).mono (fun x h => by have := h.1; show x < V_.heap.size; omega))).mono ?_
     rintro e V_9 ⟨cz, rfl, hwz, hbN⟩
     obtain ⟨w0, w1, wa, wb, wc, wd, we, wf, w4, rfl⟩ := At_slices hwz
     have hsN := hbN.size
     have hx : V_9.heap[g]? = some (Obj.cells cur 60 (0, 0)) := (hbN.block _ (by omega)).trans hx
     have hwz := hwz.mono (T := fun x => w.heap.size ≤ x) (fun x h => by have : V_.heap.size ≤ x := h; show w.heap.size ≤ x; omega)
     have hb : Below wr.heap.size wr V_9 := hb.trans (hbN.mono (by omega))
     have hsV : wr.heap.size ≤ V_9.heap.size := hb.size
     clear hbN
     refine hK.out _ _ trivial (fun hHeld => ?_)
     clear hK K
     try simp only [zt,zs,zz,Act.put,zi,zy,zx]
     refine wpAnyH_ready (rs := [15]) (by kernel_rfl) (by simp) ?_
     refine (AllReadyH.cons rfl (fun K hK => ?_) AllReadyH.nil)
     go_simp
     refine (copied_any 1000000 (Nat.le_refl _) _ hzj.2 _ V_9 ((Dt.At.keeps (Keeps.of_below hb) _ _ HDA.out).mono (fun x h => by have := h.1; show x < V_9.heap.size; omega))).mono ?_
     rintro e V_159 ⟨cz, rfl, hzz, hbN⟩
     obtain ⟨z0, z1, za, zb, zc, zd, ze, zf, z4, rfl⟩ := At_slices hzz
     have hsN := hbN.size
     have hx : V_159.heap[g]? = some (Obj.cells cur 60 (0, 0)) := (hbN.block _ (by omega)).trans hx
     have hzz := hzz.mono (T := fun x => w.heap.size ≤ x) (fun x h => by have : V_9.heap.size ≤ x := h; show w.heap.size ≤ x; omega)
     have hwz := Dt.At.keeps (Keeps.of_below hbN) _ _ hwz
     have hb : Below wr.heap.size wr V_159 := hb.trans (hbN.mono (by omega))
     have hsV : wr.heap.size ≤ V_159.heap.size := hb.size
     clear hbN
     refine hK.out _ _ trivial (fun hHeld => ?_)
     clear hK K
     try simp only [zt,zs,zz,Act.put,zi,zy,zx]
     refine qtk (i := 16) (v := ?v16) rfl rfl (fun w' hw' => ?h16) hHeld ?r16
     case h16 => go_simp; try with_reducible rfl
     simp only [zt,zs,zz,Act.put,zi,zy,zx]
     refine qtk (i := 17) (v := ?v17) rfl rfl (fun w' hw' => ?h17) hHeld ?r17
     case h17 => go_simp; try with_reducible rfl
     simp only [zt,zs,zz,Act.put,zi,zy,zx]
     refine wpAnyH_ready (rs := [18]) (by kernel_rfl) (by simp) ?_
     refine (AllReadyH.cons rfl (fun K hK => ?_) AllReadyH.nil)
     obtain ⟨⟨q0, q9, q2, q3, q4⟩, r0, r1, r2, r3, r4⟩ := CN.out V_159 hx
     have f0 : V_159.frozen? ⟨g, j * 12, none⟩ = false := by simp [World.frozen?, hx]
     have f1 : V_159.frozen? ⟨g, j * 12 + 1, none⟩ = false := by simp [World.frozen?, hx]
     have f2 : V_159.frozen? ⟨g, j * 12 + 2, none⟩ = false := by simp [World.frozen?, hx]
     have f3 : V_159.frozen? ⟨g, j * 12 + 3, none⟩ = false := by simp [World.frozen?, hx]
     have f4 : V_159.frozen? ⟨g, j * 12 + 4, none⟩ = false := by simp [World.frozen?, hx]
     go_simp
     refine hK.out _ _ trivial (fun hHeld => ?_)
     obtain ⟨Y1, hY1⟩ : ∃ Y, Y = (((((V_159.setCell ⟨g, j * 12, none⟩ (.int .i64 w0)).setCell ⟨g, j * 12 + 1, none⟩ (.string w1)).setCell ⟨g, j * 12 + 2, none⟩ (.slice wa wb wc)).setCell ⟨g, j * 12 + 3, none⟩ (.slice wd we wf)).setCell ⟨g, j * 12 + 4, none⟩ (.int .i64 w4)) := ⟨_, rfl⟩
     have hx1 : Y1.heap[g]? = some (Obj.cells (((((cur.setIfInBounds (j * 12) (.int .i64 w0)).setIfInBounds (j * 12 + 1) (.string w1)).setIfInBounds (j * 12 + 2) (.slice wa wb wc)).setIfInBounds (j * 12 + 3) (.slice wd we wf)).setIfInBounds (j * 12 + 4) (.int .i64 w4)) 60 (0, 0)) := by rw [hY1]; exact heap_setCell_same _ g (j * 12 + 4) _ 60 _ (heap_setCell_same _ g (j * 12 + 3) _ 60 _ (heap_setCell_same _ g (j * 12 + 2) _ 60 _ (heap_setCell_same _ g (j * 12 + 1) _ 60 _ (heap_setCell_same _ g (j * 12) _ 60 _ hx))))
     rw [← hY1]
     have HY1 := Lib.hid hY1
     clear hY1
     have s0 : Y1.cell? ⟨g, j * 12 + 6, none⟩ = cur[j * 12 + 6]? := by rw [Lib.cell_of_heap hx1, Array.getElem?_setIfInBounds_ne (by omega), Array.getElem?_setIfInBounds_ne (by omega), Array.getElem?_setIfInBounds_ne (by omega), Array.getElem?_setIfInBounds_ne (by omega), Array.getElem?_setIfInBounds_ne (by omega)]
     have s1 : Y1.cell? ⟨g, j * 12 + 7, none⟩ = cur[j * 12 + 7]? := by rw [Lib.cell_of_heap hx1, Array.getElem?_setIfInBounds_ne (by omega), Array.getElem?_setIfInBounds_ne (by omega), Array.getElem?_setIfInBounds_ne (by omega), Array.getElem?_setIfInBounds_ne (by omega), Array.getElem?_setIfInBounds_ne (by omega)]
     have s2 : Y1.cell? ⟨g, j * 12 + 8, none⟩ = cur[j * 12 + 8]? := by rw [Lib.cell_of_heap hx1, Array.getElem?_setIfInBounds_ne (by omega), Array.getElem?_setIfInBounds_ne (by omega), Array.getElem?_setIfInBounds_ne (by omega), Array.getElem?_setIfInBounds_ne (by omega), Array.getElem?_setIfInBounds_ne (by omega)]
     have s3 : Y1.cell? ⟨g, j * 12 + 9, none⟩ = cur[j * 12 + 9]? := by rw [Lib.cell_of_heap hx1, Array.getElem?_setIfInBounds_ne (by omega), Array.getElem?_setIfInBounds_ne (by omega), Array.getElem?_setIfInBounds_ne (by omega), Array.getElem?_setIfInBounds_ne (by omega), Array.getElem?_setIfInBounds_ne (by omega)]
     have s4 : Y1.cell? ⟨g, j * 12 + 10, none⟩ = cur[j * 12 + 10]? := by rw [Lib.cell_of_heap hx1, Array.getElem?_setIfInBounds_ne (by omega), Array.getElem?_setIfInBounds_ne (by omega), Array.getElem?_setIfInBounds_ne (by omega), Array.getElem?_setIfInBounds_ne (by omega), Array.getElem?_setIfInBounds_ne (by omega)]
     have v0 := (Lib.cell_of_heap hx _).symm.trans r0
     have v1 := (Lib.cell_of_heap hx _).symm.trans r1
     have v2 := (Lib.cell_of_heap hx _).symm.trans r2
     have v3 := (Lib.cell_of_heap hx _).symm.trans r3
     have v4 := (Lib.cell_of_heap hx _).symm.trans r4
     rw [show cur[j * 12 + 6]? = _ from v0] at s0
     rw [show cur[j * 12 + 7]? = _ from v1] at s1
     rw [show cur[j * 12 + 8]? = _ from v2] at s2
     rw [show cur[j * 12 + 9]? = _ from v3] at s3
     rw [show cur[j * 12 + 10]? = _ from v4] at s4
     clear q0 q9 q2 q3 q4 r0 r1 r2 r3 r4 v0 v1 v2 v3 v4 f0 f1 f2 f3 f4
     clear hK K
     try simp only [zt,zs,zz,Act.put,zi,zy,zx]
     refine qtk (i := 19) (v := ?v18) rfl rfl (fun w' hw' => ?h18) hHeld ?r18
     case h18 => go_simp; try with_reducible rfl
     simp only [zt,zs,zz,Act.put,zi,zy,zx]
     refine qtk (i := 20) (v := ?v19) rfl rfl (fun w' hw' => ?h19) hHeld ?r19
     case h19 => go_simp; try with_reducible rfl
     simp only [zt,zs,zz,Act.put,zi,zy,zx]
     refine wpAnyH_ready (rs := [21]) (by kernel_rfl) (by simp) ?_
     refine (AllReadyH.cons rfl (fun K hK => ?_) AllReadyH.nil)
     have f0 : Y1.frozen? ⟨g, j * 12 + 6, none⟩ = false := by simp [World.frozen?, hx1]
     have f1 : Y1.frozen? ⟨g, j * 12 + 7, none⟩ = false := by simp [World.frozen?, hx1]
     have f2 : Y1.frozen? ⟨g, j * 12 + 8, none⟩ = false := by simp [World.frozen?, hx1]
     have f3 : Y1.frozen? ⟨g, j * 12 + 9, none⟩ = false := by simp [World.frozen?, hx1]
     have f4 : Y1.frozen? ⟨g, j * 12 + 10, none⟩ = false := by simp [World.frozen?, hx1]
     go_simp
     refine hK.out _ _ trivial (fun hHeld => ?_)
     obtain ⟨Y2, hY2⟩ : ∃ Y, Y = (((((Y1.setCell ⟨g, j * 12 + 6, none⟩ (.int .i64 z0)).setCell ⟨g, j * 12 + 7, none⟩ (.string z1)).setCell ⟨g, j * 12 + 8, none⟩ (.slice za zb zc)).setCell ⟨g, j * 12 + 9, none⟩ (.slice zd ze zf)).setCell ⟨g, j * 12 + 10, none⟩ (.int .i64 z4)) := ⟨_, rfl⟩
     have hH9 := HHO.out.below hb
     obtain ⟨hst, hg1, hg2⟩ := hH9.step hgw hlt HY1.out hY2 (by rw [← HBJ.out]; exact hwz) (by rw [← HBJ.out]; exact hzz)
     rw [← hY2]
     have hy11 : ∃ ao c, Y2.cell? ⟨g, j * 12 + 11, none⟩ = some (.slice ao 0 c) := by obtain ⟨c2, x2, _, x3⟩ := hst; obtain ⟨_, _, _, _, _, ⟨ao, c, x4⟩, _⟩ := x3 j hlt; exact ⟨ao, c, by rw [Lib.cell_of_heap x2, Nat.mul_comm]; exact x4⟩
     obtain ⟨ao8, cc8, y11⟩ := hy11
     have HST := Lib.hid hst
     have HG9 := Lib.hid (grown_same HGR.out (grown_same (Below.grownRow hb (some g)) hg2))
     clear hst hg1 hg2 hH9 hY2 HY1 hx1 s0 s1 s2 s3 s4 f0 f1 f2 f3 f4 hwz hzz hx hb
     clear hK K
     try simp only [zt,zs,zz,Act.put,zi,zy,zx]
     refine wpAnyH_done (by kernel_rfl) ?_ _
     refine NoPanic.normal ?_
     clear hHeld
     go_wp2_with fail
     refine (own_zero ao8 cc8 Y2).mono ?_
     rintro e w9 ⟨rfl, rfl⟩
     clear y11
     go_wp2_with fail
     go_roundw
     case rel => exact ⟨j + 1, by omega, by go_num, HST.out, HG9.out⟩
     case measure => simp [intOf]; omega
   ·skip
    obtain ⟨_, q0, q9, q2, q3, q4⟩ := CN.out V_ hx
    go_simp
    refine hK.out _ _ trivial (fun hHeld => ?_)
    clear q0 q9 q2 q3 q4
    clear hK K
    try simp only [zt,zs,zz,Act.put,zi,zy,zx]
    refine wpAnyH_ready (rs := [8]) (by kernel_rfl) (by simp) ?_
    refine (AllReadyH.cons rfl (fun K hK => ?_) AllReadyH.nil)
    obtain ⟨⟨q0, q9, q2, q3, q4⟩, _⟩ := CN.out V_ hx
    go_simp
    refine hK.out _ _ trivial (fun hHeld => ?_)
    clear q0 q9 q2 q3 q4
    clear hK K
    try simp only [zt,zs,zz,Act.put,zi,zy,zx]
    refine wpAnyH_ready (rs := [9]) (by kernel_rfl) (by simp) ?_
    refine (AllReadyH.cons rfl (fun K hK => ?_) AllReadyH.nil)
    go_simp
    refine (copied_any 1000000 (Nat.le_refl _) _ hzj.1 _ V_ ((Dt.At.keeps (Keeps.of_below hb) _ _ HNA.out).mono (fun x h => by have := h.1; show x < V_.heap.size; omega))).mono ?_
    rintro e V_9 ⟨cz, rfl, hwz, hbN⟩
    obtain ⟨w0, w1, wa, wb, wc, wd, we, wf, w4, rfl⟩ := At_slices hwz
    have hsN := hbN.size
    have hx : V_9.heap[g]? = some (Obj.cells cur 60 (0, 0)) := (hbN.block _ (by omega)).trans hx
    have hwz := hwz.mono (T := fun x => w.heap.size ≤ x) (fun x h => by have : V_.heap.size ≤ x := h; show w.heap.size ≤ x; omega)
    have hb : Below wr.heap.size wr V_9 := hb.trans (hbN.mono (by omega))
    have hsV : wr.heap.size ≤ V_9.heap.size := hb.size
    clear hbN
    refine hK.out _ _ trivial (fun hHeld => ?_)
    clear hK K
    try simp only [zt,zs,zz,Act.put,zi,zy,zx]
    refine wpAnyH_ready (rs := [15]) (by kernel_rfl) (by simp) ?_
    refine (AllReadyH.cons rfl (fun K hK => ?_) AllReadyH.nil)
    go_simp
    refine (copied_any 1000000 (Nat.le_refl _) _ hzj.2 _ V_9 ((Dt.At.keeps (Keeps.of_below hb) _ _ HDA.out).mono (fun x h => by have := h.1; show x < V_9.heap.size; omega))).mono ?_
    rintro e V_159 ⟨cz, rfl, hzz, hbN⟩
    obtain ⟨z0, z1, za, zb, zc, zd, ze, zf, z4, rfl⟩ := At_slices hzz
    have hsN := hbN.size
    have hx : V_159.heap[g]? = some (Obj.cells cur 60 (0, 0)) := (hbN.block _ (by omega)).trans hx
    have hzz := hzz.mono (T := fun x => w.heap.size ≤ x) (fun x h => by have : V_9.heap.size ≤ x := h; show w.heap.size ≤ x; omega)
    have hwz := Dt.At.keeps (Keeps.of_below hbN) _ _ hwz
    have hb : Below wr.heap.size wr V_159 := hb.trans (hbN.mono (by omega))
    have hsV : wr.heap.size ≤ V_159.heap.size := hb.size
    clear hbN
    refine hK.out _ _ trivial (fun hHeld => ?_)
    clear hK K
    try simp only [zt,zs,zz,Act.put,zi,zy,zx]
    refine qtk (i := 16) (v := ?v20) rfl rfl (fun w' hw' => ?h20) hHeld ?r20
    case h20 => go_simp; try with_reducible rfl
    simp only [zt,zs,zz,Act.put,zi,zy,zx]
    refine qtk (i := 17) (v := ?v21) rfl rfl (fun w' hw' => ?h21) hHeld ?r21
    case h21 => go_simp; try with_reducible rfl
    simp only [zt,zs,zz,Act.put,zi,zy,zx]
    refine wpAnyH_ready (rs := [18]) (by kernel_rfl) (by simp) ?_
    refine (AllReadyH.cons rfl (fun K hK => ?_) AllReadyH.nil)
    obtain ⟨⟨q0, q9, q2, q3, q4⟩, r0, r1, r2, r3, r4⟩ := CN.out V_159 hx
    have f0 : V_159.frozen? ⟨g, j * 12, none⟩ = false := by simp [World.frozen?, hx]
    have f1 : V_159.frozen? ⟨g, j * 12 + 1, none⟩ = false := by simp [World.frozen?, hx]
    have f2 : V_159.frozen? ⟨g, j * 12 + 2, none⟩ = false := by simp [World.frozen?, hx]
    have f3 : V_159.frozen? ⟨g, j * 12 + 3, none⟩ = false := by simp [World.frozen?, hx]
    have f4 : V_159.frozen? ⟨g, j * 12 + 4, none⟩ = false := by simp [World.frozen?, hx]
    go_simp
    refine hK.out _ _ trivial (fun hHeld => ?_)
    obtain ⟨Y1, hY1⟩ : ∃ Y, Y = (((((V_159.setCell ⟨g, j * 12, none⟩ (.int .i64 w0)).setCell ⟨g, j * 12 + 1, none⟩ (.string w1)).setCell ⟨g, j * 12 + 2, none⟩ (.slice wa wb wc)).setCell ⟨g, j * 12 + 3, none⟩ (.slice wd we wf)).setCell ⟨g, j * 12 + 4, none⟩ (.int .i64 w4)) := ⟨_, rfl⟩
    have hx1 : Y1.heap[g]? = some (Obj.cells (((((cur.setIfInBounds (j * 12) (.int .i64 w0)).setIfInBounds (j * 12 + 1) (.string w1)).setIfInBounds (j * 12 + 2) (.slice wa wb wc)).setIfInBounds (j * 12 + 3) (.slice wd we wf)).setIfInBounds (j * 12 + 4) (.int .i64 w4)) 60 (0, 0)) := by rw [hY1]; exact heap_setCell_same _ g (j * 12 + 4) _ 60 _ (heap_setCell_same _ g (j * 12 + 3) _ 60 _ (heap_setCell_same _ g (j * 12 + 2) _ 60 _ (heap_setCell_same _ g (j * 12 + 1) _ 60 _ (heap_setCell_same _ g (j * 12) _ 60 _ hx))))
    rw [← hY1]
    have HY1 := Lib.hid hY1
    clear hY1
    have s0 : Y1.cell? ⟨g, j * 12 + 6, none⟩ = cur[j * 12 + 6]? := by rw [Lib.cell_of_heap hx1, Array.getElem?_setIfInBounds_ne (by omega), Array.getElem?_setIfInBounds_ne (by omega), Array.getElem?_setIfInBounds_ne (by omega), Array.getElem?_setIfInBounds_ne (by omega), Array.getElem?_setIfInBounds_ne (by omega)]
    have s1 : Y1.cell? ⟨g, j * 12 + 7, none⟩ = cur[j * 12 + 7]? := by rw [Lib.cell_of_heap hx1, Array.getElem?_setIfInBounds_ne (by omega), Array.getElem?_setIfInBounds_ne (by omega), Array.getElem?_setIfInBounds_ne (by omega), Array.getElem?_setIfInBounds_ne (by omega), Array.getElem?_setIfInBounds_ne (by omega)]
    have s2 : Y1.cell? ⟨g, j * 12 + 8, none⟩ = cur[j * 12 + 8]? := by rw [Lib.cell_of_heap hx1, Array.getElem?_setIfInBounds_ne (by omega), Array.getElem?_setIfInBounds_ne (by omega), Array.getElem?_setIfInBounds_ne (by omega), Array.getElem?_setIfInBounds_ne (by omega), Array.getElem?_setIfInBounds_ne (by omega)]
    have s3 : Y1.cell? ⟨g, j * 12 + 9, none⟩ = cur[j * 12 + 9]? := by rw [Lib.cell_of_heap hx1, Array.getElem?_setIfInBounds_ne (by omega), Array.getElem?_setIfInBounds_ne (by omega), Array.getElem?_setIfInBounds_ne (by omega), Array.getElem?_setIfInBounds_ne (by omega), Array.getElem?_setIfInBounds_ne (by omega)]
    have s4 : Y1.cell? ⟨g, j * 12 + 10, none⟩ = cur[j * 12 + 10]? := by rw [Lib.cell_of_heap hx1, Array.getElem?_setIfInBounds_ne (by omega), Array.getElem?_setIfInBounds_ne (by omega), Array.getElem?_setIfInBounds_ne (by omega), Array.getElem?_setIfInBounds_ne (by omega), Array.getElem?_setIfInBounds_ne (by omega)]
    have v0 := (Lib.cell_of_heap hx _).symm.trans r0
    have v1 := (Lib.cell_of_heap hx _).symm.trans r1
    have v2 := (Lib.cell_of_heap hx _).symm.trans r2
    have v3 := (Lib.cell_of_heap hx _).symm.trans r3
    have v4 := (Lib.cell_of_heap hx _).symm.trans r4
    rw [show cur[j * 12 + 6]? = _ from v0] at s0
    rw [show cur[j * 12 + 7]? = _ from v1] at s1
    rw [show cur[j * 12 + 8]? = _ from v2] at s2
    rw [show cur[j * 12 + 9]? = _ from v3] at s3
    rw [show cur[j * 12 + 10]? = _ from v4] at s4
    clear q0 q9 q2 q3 q4 r0 r1 r2 r3 r4 v0 v1 v2 v3 v4 f0 f1 f2 f3 f4
    clear hK K
    try simp only [zt,zs,zz,Act.put,zi,zy,zx]
    refine qtk (i := 19) (v := ?v22) rfl rfl (fun w' hw' => ?h22) hHeld ?r22
    case h22 => go_simp; try with_reducible rfl
    simp only [zt,zs,zz,Act.put,zi,zy,zx]
    refine qtk (i := 20) (v := ?v23) rfl rfl (fun w' hw' => ?h23) hHeld ?r23
    case h23 => go_simp; try with_reducible rfl
    simp only [zt,zs,zz,Act.put,zi,zy,zx]
    refine wpAnyH_ready (rs := [21]) (by kernel_rfl) (by simp) ?_
    refine (AllReadyH.cons rfl (fun K hK => ?_) AllReadyH.nil)
    have f0 : Y1.frozen? ⟨g, j * 12 + 6, none⟩ = false := by simp [World.frozen?, hx1]
    have f1 : Y1.frozen? ⟨g, j * 12 + 7, none⟩ = false := by simp [World.frozen?, hx1]
    have f2 : Y1.frozen? ⟨g, j * 12 + 8, none⟩ = false := by simp [World.frozen?, hx1]
    have f3 : Y1.frozen? ⟨g, j * 12 + 9, none⟩ = false := by simp [World.frozen?, hx1]
    have f4 : Y1.frozen? ⟨g, j * 12 + 10, none⟩ = false := by simp [World.frozen?, hx1]
    go_simp
    refine hK.out _ _ trivial (fun hHeld => ?_)
    obtain ⟨Y2, hY2⟩ : ∃ Y, Y = (((((Y1.setCell ⟨g, j * 12 + 6, none⟩ (.int .i64 z0)).setCell ⟨g, j * 12 + 7, none⟩ (.string z1)).setCell ⟨g, j * 12 + 8, none⟩ (.slice za zb zc)).setCell ⟨g, j * 12 + 9, none⟩ (.slice zd ze zf)).setCell ⟨g, j * 12 + 10, none⟩ (.int .i64 z4)) := ⟨_, rfl⟩
    have hH9 := HHO.out.below hb
    obtain ⟨hst, hg1, hg2⟩ := hH9.step hgw hlt HY1.out hY2 (by rw [← HBJ.out]; exact hwz) (by rw [← HBJ.out]; exact hzz)
    rw [← hY2]
    have hy11 : ∃ ao c, Y2.cell? ⟨g, j * 12 + 11, none⟩ = some (.slice ao 0 c) := by obtain ⟨c2, x2, _, x3⟩ := hst; obtain ⟨_, _, _, _, _, ⟨ao, c, x4⟩, _⟩ := x3 j hlt; exact ⟨ao, c, by rw [Lib.cell_of_heap x2, Nat.mul_comm]; exact x4⟩
    obtain ⟨ao8, cc8, y11⟩ := hy11
    have HST := Lib.hid hst
    have HG9 := Lib.hid (grown_same HGR.out (grown_same (Below.grownRow hb (some g)) hg2))
    clear hst hg1 hg2 hH9 hY2 HY1 hx1 s0 s1 s2 s3 s4 f0 f1 f2 f3 f4 hwz hzz hx hb
    clear hK K
    try simp only [zt,zs,zz,Act.put,zi,zy,zx]
    refine wpAnyH_done (by kernel_rfl) ?_ _
    refine NoPanic.normal ?_
    clear hHeld
    go_wp2_with fail
    refine (own_zero ao8 cc8 Y2).mono ?_
    rintro e w9 ⟨rfl, rfl⟩
    clear y11
    go_wp2_with fail
    go_roundw
    case rel => exact ⟨j + 1, by omega, by go_num, HST.out, HG9.out⟩
    case measure => simp [intOf]; omega
  ·obtain rfl : j = bs.length := by omega
   have q1 : decide ((bs.length : Int) < (bs.length : Int)) = false := decide_eq_false (by omega)
   clear hHO hgr
   go_wp2_with fail
   exact ⟨rfl, .tuple #[], by simp [results, Try.f54, go_sem], (show RetOwn _ _ _ _ _ _ from ⟨rfl, HHO.out, HGR.out⟩)⟩
end Go.Proofs.Ytecljchifebljaa
