/- Rules: the program's own, of any row. -/
import Derived.Test.YtecljchifebljaaYAA
import Derived.Test.YtecljchifebljaaYAC
import Derived.Test.YtecljchifebljaaYAV
set_option linter.unusedVariables false
set_option linter.unusedSimpArgs false
namespace Go.Proofs.Ytecljchifebljaa
open Go Go.RowKit
attribute [local go_sem] Oper.semAt_some
set_option maxHeartbeats 16000000 in
set_option maxRecDepth 100000 in
theorem ownR_any (n0 : Nat) : ∀ (bs : List Bd), Bd.sizes bs ≤ n0 → (∀ b ∈ bs, BdOk b) → bs.length ≤ 1000000 → ∀ (A : Nat) (F : Nat → Prop) (v : Value) (w : World), A ≤ w.heap.size → (∀ x, F x → A ≤ x ∧ x < w.heap.size) → RowN (fun x => x < A) F w v bs → Calls Try.prog 54 #[v] w (RetOwnR F v bs w) := by
 induction n0 with
 | zero => 
  intro bs hs hok hl A F v w hA hF h
  obtain ⟨ao, c, rfl⟩ := h.form
  cases bs with
  | cons b r => simp [Bd.sizes, Bd.size] at hs; cases b; simp [Bd.size] at hs
  | nil =>
   refine (own_zero ao c w).mono ?_
   rintro e w' ⟨he, rfl⟩
   obtain ⟨xs, cc, h1, h2, h3⟩ := h
   exact ⟨he, ⟨xs, cc, h1, h2, by unfold Bds.OAt; trivial⟩, fun _ _ _ => rfl, rfl, rfl, rfl, Nat.le_refl _⟩
 | succ n0 ih0 =>
 intro bs hs hok hl A F v w hA hF h
 have IH := Lib.hid ih0
 have HOK := Lib.hid hok
 have HF := Lib.hid hF
 obtain ⟨ao, ac, rfl⟩ := h.form
 obtain ⟨m, hm⟩ : ∃ m, m = bs.length := ⟨_, rfl⟩
 have h0 := h
 rw [RowN_C, ← hm] at h0
 obtain ⟨c0, hc0⟩ := h0
 rw [← hm]
 have HC0 : Hid (RowC F (EH A w.heap.size bs 0 w) w (.slice ao m ac) m c0) := hc0.map (fun _ _ => rfl) (fun _ h => h) (fun i G G' cs hi hG hGG ⟨b, hb1, hb2⟩ => ⟨b, hb1, fun h => absurd h (by omega), fun _ => Bd.OAt.mono (fun _ h => h) _ _ _ _ hGG hb2⟩)
 have HMB := Lib.hid hm
 clear ih0 hok hF h hc0 hm
 go_enter Try.func54, Try.ntmps54
 go_wp2_with fail
 go_loopw [5] (fun iv wr => ∃ (j : Nat) (c : Nat → Nat), j ≤ m ∧ iv = .int .i64 (j : Int) ∧ RowC F (EH A w.heap.size bs j wr) wr (.slice ao m ac) m c ∧ w.heap.size ≤ wr.heap.size ∧ (∀ x, x < w.heap.size → ¬ F x → wr.heap[x]? = w.heap[x]?) ∧ wr.os = w.os ∧ wr.tape = w.tape ∧ wr.output = w.output) (fun iv _ => m - (intOf iv).toNat)
 case atStart => exact ⟨0, c0, Nat.zero_le _, rfl, HC0.out, Nat.le_refl _, fun _ _ _ => rfl, rfl, rfl, rfl⟩
 case round =>
  clear HC0 c0
  obtain ⟨j, c, hj, rfl, hrc, hsr, hkeep, ho1, ho2, ho3⟩ := hrel
  have HRC := Lib.hid hrc
  have HKEEP := Lib.hid (And.intro hkeep (And.intro ho1 (And.intro ho2 ho3)))
  clear hkeep ho1 ho2 ho3
  by_cases hlt : j < m
  ·have q1 : decide ((j : Int) < (m : Int)) = true := decide_eq_true (by omega)
   have hm6 : m ≤ 1000000 := by have := HMB.out; omega
   obtain ⟨g, cap, cur, cs, hv1, hFg, x1, hnc, hcs, h5, hin, bq, hbq, _, hE⟩ := hrc.get hlt
   simp only [Value.slice.injEq, true_and] at hv1
   obtain ⟨rfl, rfl⟩ := hv1
   have x2 : m * 12 ≤ cur.size := by rw [hcs]; exact Nat.mul_le_mul_right 12 hnc
   have hE := hE (Nat.le_refl _)
   obtain ⟨bn, bq', bd, bl⟩ := bq
   rw [OAt_mk] at hE
   obtain ⟨m1, l1, m2, l2, lv, hcse, hna, hda, hrow⟩ := hE
   obtain ⟨ao9, cc9, rfl⟩ := hrow.form
   obtain ⟨k1, t1, a1', b1, c1, d1, e1, f1, p1, hf1⟩ := At_slices hna
   obtain ⟨k2, t2, a2', b2, c2, d2, e2, f2, p2, hf2⟩ := At_slices hda
   have hzj : bn.size ≤ 1000000 ∧ bd.size ≤ 1000000 ∧ bl.length ≤ 1000000 ∧ ∀ b ∈ bl, BdOk b := by
    exact (BdOk_mk ..).1 (HOK.out _ (List.mem_of_getElem? hbq))
   have hszl : Bd.sizes bl ≤ n0 := by
    obtain ⟨hjl, e⟩ := List.getElem?_eq_some_iff.1 hbq
    have h9 := bd_size_get bs j hjl
    rw [e] at h9
    simp only [Bd.size] at h9
    omega
   have htw : ∀ t, t < 12 → cur[j * 12 + t]? = (bn.five m1 l1 ++ [Value.int .i64 bq'] ++ bd.five m2 l2 ++ [.slice ao9 bl.length cc9])[t]? := fun t ht => by rw [Nat.mul_comm j 12, hin t ht, hcse]; simp
   have ef1 := congrArg Array.toList hf1
   have ef2 := congrArg Array.toList hf2
   simp only [List.toList_toArray] at ef1 ef2
   rw [ef1, ef2] at htw
   rw [hf1] at hna
   rw [hf2] at hda
   have hgw : g < w.heap.size := (HF.out g hFg).2
   have CN : Hid (∀ V : World, V.heap[g]? = some (Obj.cells cur 60 (0, 0)) → (V.cell? ⟨g, j * 12, none⟩ = some (.int .i64 k1) ∧ V.cell? ⟨g, j * 12 + 1, none⟩ = some (.string t1) ∧ V.cell? ⟨g, j * 12 + 2, none⟩ = some (.slice a1' b1 c1) ∧ V.cell? ⟨g, j * 12 + 3, none⟩ = some (.slice d1 e1 f1) ∧ V.cell? ⟨g, j * 12 + 4, none⟩ = some (.int .i64 p1)) ∧
     (V.cell? ⟨g, j * 12 + 6, none⟩ = some (.int .i64 k2) ∧ V.cell? ⟨g, j * 12 + 7, none⟩ = some (.string t2) ∧ V.cell? ⟨g, j * 12 + 8, none⟩ = some (.slice a2' b2 c2) ∧ V.cell? ⟨g, j * 12 + 9, none⟩ = some (.slice d2 e2 f2) ∧ V.cell? ⟨g, j * 12 + 10, none⟩ = some (.int .i64 p2))) := by
    intro V h
    refine ⟨⟨?_, ?_, ?_, ?_, ?_⟩, ?_, ?_, ?_, ?_, ?_⟩ <;> rw [Lib.cell_of_heap h]
    ·exact htw 0 (by decide)
    ·exact htw 1 (by decide)
    ·exact htw 2 (by decide)
    ·exact htw 3 (by decide)
    ·exact htw 4 (by decide)
    ·exact htw 6 (by decide)
    ·exact htw 7 (by decide)
    ·exact htw 8 (by decide)
    ·exact htw 9 (by decide)
    ·exact htw 10 (by decide)
   have HTW := Lib.hid htw
   have HNA := Lib.hid hna
   have HDA := Lib.hid hda
   have HBQ := Lib.hid hbq
   have HROW := Lib.hid hrow
   have HOKL := Lib.hid hzj.2.2.2
   have hlz := hzj.2.2.1
   have hzj := And.intro hzj.1 hzj.2.1
   have hx0 : wr.drew.heap[g]? = some (Obj.cells cur 60 (0, 0)) := x1
   have HX1 := Lib.hid x1
   have hbV : Below wr.heap.size wr wr.drew := (Below.refl _ _).drew
   clear hna hda hrow htw hbq hin hcse hcs h5 hnc hf1 hf2 ef1 ef2 x1 hrc
   go_upto_region 3 with fail
   refine wp_region_noPanic ?_
   refine wp_region_held_drew (S := fun _ => True) (by kernel_rfl) trivial (fun hHeld => ?_)
   generalize wr.drew = V_ at hx0 hbV ⊢
   have hx := hx0
   have hb := hbV
   have hsV := hb.size
   clear hHeld hx0 hbV
   have hHeld : True := trivial
   refine qts [0, 1, 2, 3, 4, 5, 6, 7, 10, 11, 12, 13] hHeld ?_
   iterate 12 (refine qtc (v := ?_) rfl rfl (fun w' hw' => ?_) ?_; rotate_left; (focus (go_simp; try with_reducible rfl)); simp only [zt,zs,zz,Act.put,zi,zy,zx])
   refine qtn ?_
   simp only [zt,zs,zz,Act.put,zi,zy,zx,qzl,qzn,qza,Nat.reduceAdd,Nat.reduceSub]
   refine wpAnyH_ready (rs := [8, 14]) (by kernel_rfl) (by simp) ?_
   refine (AllReadyH.cons rfl (fun K hK => ?_) (AllReadyH.cons rfl (fun K hK => ?_) AllReadyH.nil))
   ·skip
    obtain ⟨⟨q0, q9, q2, q3, q4⟩, _⟩ := CN.out V_ hx
    go_simp
    refine hK.out _ _ trivial (fun hHeld => ?_)
    clear q0 q9 q2 q3 q4
    clear hK K
    try simp only [zt,zs,zz,Act.put,zi,zy,zx]
    refine wpAnyH_ready (rs := [9, 14]) (by kernel_rfl) (by simp) ?_
    refine (AllReadyH.cons rfl (fun K hK => ?_) (AllReadyH.cons rfl (fun K hK => ?_) AllReadyH.nil))
    ·skip
     go_simp
     refine (copied_any 1000000 (Nat.le_refl _) _ hzj.1 _ V_ ((Dt.At.keeps (Keeps.of_below hb) _ _ HNA.out).mono (fun x h => by have : x < A := h; show x < V_.heap.size; omega))).mono ?_
     rintro e V_9 ⟨cz, rfl, hwz, hbN⟩
     obtain ⟨w0, w1, wa, wb, wc, wd, we, wf, w4, rfl⟩ := At_slices hwz
     have hsN := hbN.size
     have hx : V_9.heap[g]? = some (Obj.cells cur 60 (0, 0)) := (hbN.block _ (by omega)).trans hx
     have hwz := hwz.mono (T := fun x => w.heap.size ≤ x) (fun x h => by have : V_.heap.size ≤ x := h; show w.heap.size ≤ x; omega)
     have hb : Below wr.heap.size wr V_9 := hb.trans (hbN.mono (by omega))
     have hsV : wr.heap.size ≤ V_9.heap.size := hb.size
     clear hbN
     refine hK.out _ _ trivial (fun hHeld => ?_)
     clear hK K
     try simp only [zt,zs,zz,Act.put,zi,zy,zx]
     refine wpAnyH_ready (rs := [14]) (by kernel_rfl) (by simp) ?_
     refine (AllReadyH.cons rfl (fun K hK => ?_) AllReadyH.nil)
     obtain ⟨_, q0, q9, q2, q3, q4⟩ := CN.out V_9 hx
     go_simp
     refine hK.out _ _ trivial (fun hHeld => ?_)
     clear q0 q9 q2 q3 q4
     clear hK K
     try simp only [zt,zs,zz,Act.put,zi,zy,zx]
     refine wpAnyH_ready (rs := [15]) (by kernel_rfl) (by simp) ?_
     refine (AllReadyH.cons rfl (fun K hK => ?_) AllReadyH.nil)
     go_simp
     refine (copied_any 1000000 (Nat.le_refl _) _ hzj.2 _ V_9 ((Dt.At.keeps (Keeps.of_below hb) _ _ HDA.out).mono (fun x h => by have : x < A := h; show x < V_9.heap.size; omega))).mono ?_
     rintro e V_159 ⟨cz, rfl, hzz, hbN⟩
     obtain ⟨z0, z1, za, zb, zc, zd, ze, zf, z4, rfl⟩ := At_slices hzz
     have hsN := hbN.size
     have hx : V_159.heap[g]? = some (Obj.cells cur 60 (0, 0)) := (hbN.block _ (by omega)).trans hx
     have hzz := hzz.mono (T := fun x => w.heap.size ≤ x) (fun x h => by have : V_9.heap.size ≤ x := h; show w.heap.size ≤ x; omega)
     have hwz := Dt.At.keeps (Keeps.of_below hbN) _ _ hwz
     have hb : Below wr.heap.size wr V_159 := hb.trans (hbN.mono (by omega))
     have hsV : wr.heap.size ≤ V_159.heap.size := hb.size
     clear hbN
     refine hK.out _ _ trivial (fun hHeld => ?_)
     clear hK K
     try simp only [zt,zs,zz,Act.put,zi,zy,zx]
     refine qtk (i := 16) (v := ?v12) rfl rfl (fun w' hw' => ?h12) hHeld ?r12
     case h12 => go_simp; try with_reducible rfl
     simp only [zt,zs,zz,Act.put,zi,zy,zx]
     refine qtk (i := 17) (v := ?v13) rfl rfl (fun w' hw' => ?h13) hHeld ?r13
     case h13 => go_simp; try with_reducible rfl
     simp only [zt,zs,zz,Act.put,zi,zy,zx]
     refine wpAnyH_ready (rs := [18]) (by kernel_rfl) (by simp) ?_
     refine (AllReadyH.cons rfl (fun K hK => ?_) AllReadyH.nil)
     obtain ⟨⟨q0, q9, q2, q3, q4⟩, r0, r1, r2, r3, r4⟩ := CN.out V_159 hx
     have f0 : V_159.frozen? ⟨g, j * 12, none⟩ = false := by simp [World.frozen?, hx]
     have f1 : V_159.frozen? ⟨g, j * 12 + 1, none⟩ = false := by simp [World.frozen?, hx]
     have f2 : V_159.frozen? ⟨g, j * 12 + 2, none⟩ = false := by simp [World.frozen?, hx]
     have f3 : V_159.frozen? ⟨g, j * 12 + 3, none⟩ = false := by simp [World.frozen?, hx]
     have f4 : V_159.frozen? ⟨g, j * 12 + 4, none⟩ = false := by simp [World.frozen?, hx]
     go_simp
     refine hK.out _ _ trivial (fun hHeld => ?_)
     obtain ⟨Y1, hY1⟩ : ∃ Y, Y = (((((V_159.setCell ⟨g, j * 12, none⟩ (.int .i64 w0)).setCell ⟨g, j * 12 + 1, none⟩ (.string w1)).setCell ⟨g, j * 12 + 2, none⟩ (.slice wa wb wc)).setCell ⟨g, j * 12 + 3, none⟩ (.slice wd we wf)).setCell ⟨g, j * 12 + 4, none⟩ (.int .i64 w4)) := ⟨_, rfl⟩
     have hx1 : Y1.heap[g]? = some (Obj.cells (((((cur.setIfInBounds (j * 12) (.int .i64 w0)).setIfInBounds (j * 12 + 1) (.string w1)).setIfInBounds (j * 12 + 2) (.slice wa wb wc)).setIfInBounds (j * 12 + 3) (.slice wd we wf)).setIfInBounds (j * 12 + 4) (.int .i64 w4)) 60 (0, 0)) := by rw [hY1]; exact heap_setCell_same _ g (j * 12 + 4) _ 60 _ (heap_setCell_same _ g (j * 12 + 3) _ 60 _ (heap_setCell_same _ g (j * 12 + 2) _ 60 _ (heap_setCell_same _ g (j * 12 + 1) _ 60 _ (heap_setCell_same _ g (j * 12) _ 60 _ hx))))
     rw [← hY1]
     have HY1 := Lib.hid hY1
     clear hY1
     have s0 : Y1.cell? ⟨g, j * 12 + 6, none⟩ = cur[j * 12 + 6]? := by rw [Lib.cell_of_heap hx1, Array.getElem?_setIfInBounds_ne (by omega), Array.getElem?_setIfInBounds_ne (by omega), Array.getElem?_setIfInBounds_ne (by omega), Array.getElem?_setIfInBounds_ne (by omega), Array.getElem?_setIfInBounds_ne (by omega)]
     have s1 : Y1.cell? ⟨g, j * 12 + 7, none⟩ = cur[j * 12 + 7]? := by rw [Lib.cell_of_heap hx1, Array.getElem?_setIfInBounds_ne (by omega), Array.getElem?_setIfInBounds_ne (by omega), Array.getElem?_setIfInBounds_ne (by omega), Array.getElem?_setIfInBounds_ne (by omega), Array.getElem?_setIfInBounds_ne (by omega)]
     have s2 : Y1.cell? ⟨g, j * 12 + 8, none⟩ = cur[j * 12 + 8]? := by rw [Lib.cell_of_heap hx1, Array.getElem?_setIfInBounds_ne (by omega), Array.getElem?_setIfInBounds_ne (by omega), Array.getElem?_setIfInBounds_ne (by omega), Array.getElem?_setIfInBounds_ne (by omega), Array.getElem?_setIfInBounds_ne (by omega)]
     have s3 : Y1.cell? ⟨g, j * 12 + 9, none⟩ = cur[j * 12 + 9]? := by rw [Lib.cell_of_heap hx1, Array.getElem?_setIfInBounds_ne (by omega), Array.getElem?_setIfInBounds_ne (by omega), Array.getElem?_setIfInBounds_ne (by omega), Array.getElem?_setIfInBounds_ne (by omega), Array.getElem?_setIfInBounds_ne (by omega)]
     have s4 : Y1.cell? ⟨g, j * 12 + 10, none⟩ = cur[j * 12 + 10]? := by rw [Lib.cell_of_heap hx1, Array.getElem?_setIfInBounds_ne (by omega), Array.getElem?_setIfInBounds_ne (by omega), Array.getElem?_setIfInBounds_ne (by omega), Array.getElem?_setIfInBounds_ne (by omega), Array.getElem?_setIfInBounds_ne (by omega)]
     have v0 := (Lib.cell_of_heap hx _).symm.trans r0
     have v1 := (Lib.cell_of_heap hx _).symm.trans r1
     have v2 := (Lib.cell_of_heap hx _).symm.trans r2
     have v3 := (Lib.cell_of_heap hx _).symm.trans r3
     have v4 := (Lib.cell_of_heap hx _).symm.trans r4
     rw [show cur[j * 12 + 6]? = _ from v0] at s0
     rw [show cur[j * 12 + 7]? = _ from v1] at s1
     rw [show cur[j * 12 + 8]? = _ from v2] at s2
     rw [show cur[j * 12 + 9]? = _ from v3] at s3
     rw [show cur[j * 12 + 10]? = _ from v4] at s4
     clear q0 q9 q2 q3 q4 r0 r1 r2 r3 r4 v0 v1 v2 v3 v4 f0 f1 f2 f3 f4
     clear hK K
     try simp only [zt,zs,zz,Act.put,zi,zy,zx]
     refine qtk (i := 19) (v := ?v14) rfl rfl (fun w' hw' => ?h14) hHeld ?r14
     case h14 => go_simp; try with_reducible rfl
     simp only [zt,zs,zz,Act.put,zi,zy,zx]
     refine qtk (i := 20) (v := ?v15) rfl rfl (fun w' hw' => ?h15) hHeld ?r15
     case h15 => go_simp; try with_reducible rfl
     simp only [zt,zs,zz,Act.put,zi,zy,zx]
     refine wpAnyH_ready (rs := [21]) (by kernel_rfl) (by simp) ?_
     refine (AllReadyH.cons rfl (fun K hK => ?_) AllReadyH.nil)
     have f0 : Y1.frozen? ⟨g, j * 12 + 6, none⟩ = false := by simp [World.frozen?, hx1]
     have f1 : Y1.frozen? ⟨g, j * 12 + 7, none⟩ = false := by simp [World.frozen?, hx1]
     have f2 : Y1.frozen? ⟨g, j * 12 + 8, none⟩ = false := by simp [World.frozen?, hx1]
     have f3 : Y1.frozen? ⟨g, j * 12 + 9, none⟩ = false := by simp [World.frozen?, hx1]
     have f4 : Y1.frozen? ⟨g, j * 12 + 10, none⟩ = false := by simp [World.frozen?, hx1]
     go_simp
     refine hK.out _ _ trivial (fun hHeld => ?_)
     obtain ⟨Y2, hY2⟩ : ∃ Y, Y = (((((Y1.setCell ⟨g, j * 12 + 6, none⟩ (.int .i64 z0)).setCell ⟨g, j * 12 + 7, none⟩ (.string z1)).setCell ⟨g, j * 12 + 8, none⟩ (.slice za zb zc)).setCell ⟨g, j * 12 + 9, none⟩ (.slice zd ze zf)).setCell ⟨g, j * 12 + 10, none⟩ (.int .i64 z4)) := ⟨_, rfl⟩
     obtain ⟨c9, y2, y3, y4, y5, y6, y7, y8, y9⟩ := two_five hx (by omega) HY1.out hY2
     rw [← hY2]
     have hbV9 : Below wr.heap.size wr V_159 := hb
     have hyk : ∀ x, x < wr.heap.size → x ≠ g → Y2.heap[x]? = wr.heap[x]? := fun x hx1 hx2 => (y9.block x (by omega) (fun e => by injection e with e; exact hx2 e)).trans (hbV9.block x hx1)
     have y11 : Y2.cell? ⟨g, j * 12 + 11, none⟩ = some (.slice ao9 bl.length cc9) := by rw [Lib.cell_of_heap y2, y7]; exact HTW.out 11 (by decide)
     have hyr : RowN (fun x => x < A) (fun x => F x ∧ g ≠ x ∧ c x = j) Y2 (.slice ao9 bl.length cc9) bl := HROW.out.keeps (fun x cc T fz hxs hh => ⟨fz, by have hxs : x < A := hxs; rw [hyk x (Array.getElem?_eq_some_iff.1 hh).1 (fun e => by have := (HF.out g hFg).1; omega)]; exact hh⟩) (fun x hx => hyk x (by have := (HF.out x hx.1).2; omega) (fun e => hx.2.1 e.symm))
     have hsY : wr.heap.size ≤ Y2.heap.size := Nat.le_trans hsV y9.size
     have FO := Lib.hid (IH.out bl hszl HOKL.out hlz A (fun x => F x ∧ g ≠ x ∧ c x = j) _ Y2 (by omega) (fun x hx => ⟨(HF.out x hx.1).1, by have := (HF.out x hx.1).2; omega⟩) hyr)
     have HWZ := Lib.hid (Dt.At.keeps (Keeps.of_grown y9 (fun x (hx : w.heap.size ≤ x) e => by injection e with e; omega)) _ _ hwz)
     have HZZ := Lib.hid (Dt.At.keeps (Keeps.of_grown y9 (fun x (hx : w.heap.size ≤ x) e => by injection e with e; omega)) _ _ hzz)
     have HY := Lib.hid (And.intro y2 (And.intro y3 (And.intro y4 (And.intro y5 (And.intro y6 (And.intro y7 (And.intro y8 (And.intro hyk (And.intro (y9.os.trans hbV9.os) (And.intro (y9.tape.trans hbV9.tape) (y9.output.trans hbV9.output)))))))))))
     clear y2 y3 y4 y5 y6 y7 y8 y9 hyk hyr hbV9 hY2 HY1 hx1 s0 s1 s2 s3 s4 f0 f1 f2 f3 f4 hwz hzz hx hb
     clear hK K
     try simp only [zt,zs,zz,Act.put,zi,zy,zx]
     refine wpAnyH_done (by kernel_rfl) ?_ _
     refine NoPanic.normal ?_
     clear hHeld
     go_wp2_with fail
     refine FO.out.mono ?_
     rintro e w9 ⟨rfl, hr9, hk9, z1, z2, z3, hs9⟩
     obtain ⟨y2, y3, y4, y5, y6, y7, y8, hyk, u1, u2, u3⟩ := HY.out
     have hkz : Keeps (fun x => w.heap.size ≤ x) Y2 w9 := fun x cc T fz hx hh _ => ⟨fz, (hk9 x (Array.getElem?_eq_some_iff.1 hh).1 (fun h => by have := (HF.out x h.1).2; have hx : w.heap.size ≤ x := hx; omega)).trans hh⟩
     have ew := five_is HWZ.out
     have ez := five_is HZZ.out
     have ew2 := congrArg Array.toList ew
     have ez2 := congrArg Array.toList ez
     simp only [List.toList_toArray] at ew2 ez2
     have hstep : ∃ c', RowC F (EH A w.heap.size bs (j + 1) w9) w9 (.slice (some ⟨g, 0, none⟩) m ac) m c' := by
      refine own_step (m1 := .slice wa wb wc) (l1 := .slice wd we wf) (m2 := .slice za zb zc) (l2 := .slice zd ze zf) (lv := .slice ao9 bl.length cc9) hA HF.out hsr HRC.out hlt hFg HX1.out ((hk9 g (by omega) (fun h => h.2.1 rfl)).trans y2) y3 (fun t ht => y8 t (by omega)) HBQ.out (fun t ht => ?_) (by rw [← ew]; exact Dt.At.keeps hkz _ _ HWZ.out) (by rw [← ez]; exact Dt.At.keeps hkz _ _ HZZ.out) (hr9.mono (fun x (h : Y2.heap.size ≤ x) => by show w.heap.size ≤ x; omega) (fun _ h => h)) (fun x hx h1 h2 => (hk9 x (by omega) h2).trans (hyk x hx h1))
      rw [← ew2, ← ez2, Nat.mul_comm 12 j]
      rcases (show t = 0 ∨ t = 1 ∨ t = 2 ∨ t = 3 ∨ t = 4 ∨ t = 5 ∨ t = 6 ∨ t = 7 ∨ t = 8 ∨ t = 9 ∨ t = 10 ∨ t = 11 by omega) with rfl | rfl | rfl | rfl | rfl | rfl | rfl | rfl | rfl | rfl | rfl | rfl
      ·exact y4 0 (by decide)
      ·exact y4 1 (by decide)
      ·exact y4 2 (by decide)
      ·exact y4 3 (by decide)
      ·exact y4 4 (by decide)
      ·exact y5.trans (HTW.out 5 (by decide))
      ·exact y6 0 (by decide)
      ·exact y6 1 (by decide)
      ·exact y6 2 (by decide)
      ·exact y6 3 (by decide)
      ·exact y6 4 (by decide)
      ·exact y7.trans (HTW.out 11 (by decide))
     clear hkz ew ez ew2 ez2
     have hall : ∀ x, x < w.heap.size → ¬ F x → w9.heap[x]? = w.heap[x]? := fun x hx hnF => (hk9 x (by omega) (fun h => hnF h.1)).trans ((hyk x (by omega) (fun e => hnF (e ▸ hFg))).trans (HKEEP.out.1 x hx hnF))
     have HST := Lib.hid hstep
     have HALL := Lib.hid (And.intro hall (And.intro (z1.trans (u1.trans HKEEP.out.2.1)) (And.intro (z2.trans (u2.trans HKEEP.out.2.2.1)) (z3.trans (u3.trans HKEEP.out.2.2.2)))))
     clear hr9 hk9 z1 z2 z3 y2 y3 y4 y5 y6 y7 y8 hyk u1 u2 u3 hstep hall y11 FO
     go_wp2_with fail
     go_roundw
     case rel =>
      obtain ⟨c', hc'⟩ := HST.out
      exact ⟨j + 1, c', by omega, by go_num, hc', by omega, HALL.out.1, HALL.out.2.1, HALL.out.2.2.1, HALL.out.2.2.2⟩
     case measure => simp [intOf]; omega
    ·skip
     obtain ⟨_, q0, q9, q2, q3, q4⟩ := CN.out V_ hx
     go_simp
     refine hK.out _ _ trivial (fun hHeld => ?_)
     clear q0 q9 q2 q3 q4
     clear hK K
     try simp only [zt,zs,zz,Act.put,zi,zy,zx]
     refine wpAnyH_ready (rs := [9]) (by kernel_rfl) (by simp) ?_
     refine (AllReadyH.cons rfl (fun K hK => ?_) AllReadyH.nil)
     go_simp
     refine (copied_any 1000000 (Nat.le_refl _) _ hzj.1 _ V_ ((Dt.At.keeps (Keeps.of_below hb) _ _ HNA.out).mono (fun x h => by have : x < A := h; show x < V_.heap.size; omega))).mono ?_
     rintro e V_9 ⟨cz, rfl, hwz, hbN⟩
     obtain ⟨w0, w1, wa, wb, wc, wd, we, wf, w4, rfl⟩ := At_slices hwz
     have hsN := hbN.size
     have hx : V_9.heap[g]? = some (Obj.cells cur 60 (0, 0)) := (hbN.block _ (by omega)).trans hx
     have hwz := hwz.mono (T := fun x => w.heap.size ≤ x) (fun x h => by have : V_.heap.size ≤ x := h; show w.heap.size ≤ x; omega)
     have hb : Below wr.heap.size wr V_9 := hb.trans (hbN.mono (by omega))
     have hsV : wr.heap.size ≤ V_9.heap.size := hb.size
     clear hbN
     refine hK.out _ _ trivial (fun hHeld => ?_)
     clear hK K
     try simp only [zt,zs,zz,Act.put,zi,zy,zx]
     refine wpAnyH_ready (rs := [15]) (by kernel_rfl) (by simp) ?_
     refine (AllReadyH.cons rfl (fun K hK => ?_) AllReadyH.nil)
     go_simp
     refine (copied_any 1000000 (Nat.le_refl _) _ hzj.2 _ V_9 ((Dt.At.keeps (Keeps.of_below hb) _ _ HDA.out).mono (fun x h => by have : x < A := h; show x < V_9.heap.size; omega))).mono ?_
     rintro e V_159 ⟨cz, rfl, hzz, hbN⟩
     obtain ⟨z0, z1, za, zb, zc, zd, ze, zf, z4, rfl⟩ := At_slices hzz
     have hsN := hbN.size
     have hx : V_159.heap[g]? = some (Obj.cells cur 60 (0, 0)) := (hbN.block _ (by omega)).trans hx
     have hzz := hzz.mono (T := fun x => w.heap.size ≤ x) (fun x h => by have : V_9.heap.size ≤ x := h; show w.heap.size ≤ x; omega)
     have hwz := Dt.At.keeps (Keeps.of_below hbN) _ _ hwz
     have hb : Below wr.heap.size wr V_159 := hb.trans (hbN.mono (by omega))
     have hsV : wr.heap.size ≤ V_159.heap.size := hb.size
     clear hbN
     refine hK.out _ _ trivial (fun hHeld => ?_)
     clear hK K
     try simp only [zt,zs,zz,Act.put,zi,zy,zx]
     refine qtk (i := 16) (v := ?v16) rfl rfl (fun w' hw' => ?h16) hHeld ?r16
     case h16 => go_simp; try with_reducible rfl
     simp only [zt,zs,zz,Act.put,zi,zy,zx]
     refine qtk (i := 17) (v := ?v17) rfl rfl (fun w' hw' => ?h17) hHeld ?r17
     case h17 => go_simp; try with_reducible rfl
     simp only [zt,zs,zz,Act.put,zi,zy,zx]
     refine wpAnyH_ready (rs := [18]) (by kernel_rfl) (by simp) ?_
     refine (AllReadyH.cons rfl (fun K hK => ?_) AllReadyH.nil)
     obtain ⟨⟨q0, q9, q2, q3, q4⟩, r0, r1, r2, r3, r4⟩ := CN.out V_159 hx
     have f0 : V_159.frozen? ⟨g, j * 12, none⟩ = false := by simp [World.frozen?, hx]
     have f1 : V_159.frozen? ⟨g, j * 12 + 1, none⟩ = false := by simp [World.frozen?, hx]
     have f2 : V_159.frozen? ⟨g, j * 12 + 2, none⟩ = false := by simp [World.frozen?, hx]
     have f3 : V_159.frozen? ⟨g, j * 12 + 3, none⟩ = false := by simp [World.frozen?, hx]
     have f4 : V_159.frozen? ⟨g, j * 12 + 4, none⟩ = false := by simp [World.frozen?, hx]
     go_simp
     refine hK.out _ _ trivial (fun hHeld => ?_)
     obtain ⟨Y1, hY1⟩ : ∃ Y, Y = (((((V_159.setCell ⟨g, j * 12, none⟩ (.int .i64 w0)).setCell ⟨g, j * 12 + 1, none⟩ (.string w1)).setCell ⟨g, j * 12 + 2, none⟩ (.slice wa wb wc)).setCell ⟨g, j * 12 + 3, none⟩ (.slice wd we wf)).setCell ⟨g, j * 12 + 4, none⟩ (.int .i64 w4)) := ⟨_, rfl⟩
     have hx1 : Y1.heap[g]? = some (Obj.cells (((((cur.setIfInBounds (j * 12) (.int .i64 w0)).setIfInBounds (j * 12 + 1) (.string w1)).setIfInBounds (j * 12 + 2) (.slice wa wb wc)).setIfInBounds (j * 12 + 3) (.slice wd we wf)).setIfInBounds (j * 12 + 4) (.int .i64 w4)) 60 (0, 0)) := by rw [hY1]; exact heap_setCell_same _ g (j * 12 + 4) _ 60 _ (heap_setCell_same _ g (j * 12 + 3) _ 60 _ (heap_setCell_same _ g (j * 12 + 2) _ 60 _ (heap_setCell_same _ g (j * 12 + 1) _ 60 _ (heap_setCell_same _ g (j * 12) _ 60 _ hx))))
     rw [← hY1]
     have HY1 := Lib.hid hY1
     clear hY1
     have s0 : Y1.cell? ⟨g, j * 12 + 6, none⟩ = cur[j * 12 + 6]? := by rw [Lib.cell_of_heap hx1, Array.getElem?_setIfInBounds_ne (by omega), Array.getElem?_setIfInBounds_ne (by omega), Array.getElem?_setIfInBounds_ne (by omega), Array.getElem?_setIfInBounds_ne (by omega), Array.getElem?_setIfInBounds_ne (by omega)]
     have s1 : Y1.cell? ⟨g, j * 12 + 7, none⟩ = cur[j * 12 + 7]? := by rw [Lib.cell_of_heap hx1, Array.getElem?_setIfInBounds_ne (by omega), Array.getElem?_setIfInBounds_ne (by omega), Array.getElem?_setIfInBounds_ne (by omega), Array.getElem?_setIfInBounds_ne (by omega), Array.getElem?_setIfInBounds_ne (by omega)]
     have s2 : Y1.cell? ⟨g, j * 12 + 8, none⟩ = cur[j * 12 + 8]? := by rw [Lib.cell_of_heap hx1, Array.getElem?_setIfInBounds_ne (by omega), Array.getElem?_setIfInBounds_ne (by omega), Array.getElem?_setIfInBounds_ne (by omega), Array.getElem?_setIfInBounds_ne (by omega), Array.getElem?_setIfInBounds_ne (by omega)]
     have s3 : Y1.cell? ⟨g, j * 12 + 9, none⟩ = cur[j * 12 + 9]? := by rw [Lib.cell_of_heap hx1, Array.getElem?_setIfInBounds_ne (by omega), Array.getElem?_setIfInBounds_ne (by omega), Array.getElem?_setIfInBounds_ne (by omega), Array.getElem?_setIfInBounds_ne (by omega), Array.getElem?_setIfInBounds_ne (by omega)]
     have s4 : Y1.cell? ⟨g, j * 12 + 10, none⟩ = cur[j * 12 + 10]? := by rw [Lib.cell_of_heap hx1, Array.getElem?_setIfInBounds_ne (by omega), Array.getElem?_setIfInBounds_ne (by omega), Array.getElem?_setIfInBounds_ne (by omega), Array.getElem?_setIfInBounds_ne (by omega), Array.getElem?_setIfInBounds_ne (by omega)]
     have v0 := (Lib.cell_of_heap hx _).symm.trans r0
     have v1 := (Lib.cell_of_heap hx _).symm.trans r1
     have v2 := (Lib.cell_of_heap hx _).symm.trans r2
     have v3 := (Lib.cell_of_heap hx _).symm.trans r3
     have v4 := (Lib.cell_of_heap hx _).symm.trans r4
     rw [show cur[j * 12 + 6]? = _ from v0] at s0
     rw [show cur[j * 12 + 7]? = _ from v1] at s1
     rw [show cur[j * 12 + 8]? = _ from v2] at s2
     rw [show cur[j * 12 + 9]? = _ from v3] at s3
     rw [show cur[j * 12 + 10]? = _ from v4] at s4
     clear q0 q9 q2 q3 q4 r0 r1 r2 r3 r4 v0 v1 v2 v3 v4 f0 f1 f2 f3 f4
     clear hK K
     try simp only [zt,zs,zz,Act.put,zi,zy,zx]
     refine qtk (i := 19) (v := ?v18) rfl rfl (fun w' hw' => ?h18) hHeld ?r18
     case h18 => go_simp; try with_reducible rfl
     simp only [zt,zs,zz,Act.put,zi,zy,zx]
     refine qtk (i := 20) (v := ?v19) rfl rfl (fun w' hw' => ?h19) hHeld ?r19
     case h19 => go_simp; try with_reducible rfl
     simp only [zt,zs,zz,Act.put,zi,zy,zx]
     refine wpAnyH_ready (rs := [21]) (by kernel_rfl) (by simp) ?_
     refine (AllReadyH.cons rfl (fun K hK => ?_) AllReadyH.nil)
     have f0 : Y1.frozen? ⟨g, j * 12 + 6, none⟩ = false := by simp [World.frozen?, hx1]
     have f1 : Y1.frozen? ⟨g, j * 12 + 7, none⟩ = false := by simp [World.frozen?, hx1]
     have f2 : Y1.frozen? ⟨g, j * 12 + 8, none⟩ = false := by simp [World.frozen?, hx1]
     have f3 : Y1.frozen? ⟨g, j * 12 + 9, none⟩ = false := by simp [World.frozen?, hx1]
     have f4 : Y1.frozen? ⟨g, j * 12 + 10, none⟩ = false := by simp [World.frozen?, hx1]
     go_simp
     refine hK.out _ _ trivial (fun hHeld => ?_)
     obtain ⟨Y2, hY2⟩ : ∃ Y, Y = (((((Y1.setCell ⟨g, j * 12 + 6, none⟩ (.int .i64 z0)).setCell ⟨g, j * 12 + 7, none⟩ (.string z1)).setCell ⟨g, j * 12 + 8, none⟩ (.slice za zb zc)).setCell ⟨g, j * 12 + 9, none⟩ (.slice zd ze zf)).setCell ⟨g, j * 12 + 10, none⟩ (.int .i64 z4)) := ⟨_, rfl⟩
     obtain ⟨c9, y2, y3, y4, y5, y6, y7, y8, y9⟩ := two_five hx (by omega) HY1.out hY2
     rw [← hY2]
     have hbV9 : Below wr.heap.size wr V_159 := hb
     have hyk : ∀ x, x < wr.heap.size → x ≠ g → Y2.heap[x]? = wr.heap[x]? := fun x hx1 hx2 => (y9.block x (by omega) (fun e => by injection e with e; exact hx2 e)).trans (hbV9.block x hx1)
     have y11 : Y2.cell? ⟨g, j * 12 + 11, none⟩ = some (.slice ao9 bl.length cc9) := by rw [Lib.cell_of_heap y2, y7]; exact HTW.out 11 (by decide)
     have hyr : RowN (fun x => x < A) (fun x => F x ∧ g ≠ x ∧ c x = j) Y2 (.slice ao9 bl.length cc9) bl := HROW.out.keeps (fun x cc T fz hxs hh => ⟨fz, by have hxs : x < A := hxs; rw [hyk x (Array.getElem?_eq_some_iff.1 hh).1 (fun e => by have := (HF.out g hFg).1; omega)]; exact hh⟩) (fun x hx => hyk x (by have := (HF.out x hx.1).2; omega) (fun e => hx.2.1 e.symm))
     have hsY : wr.heap.size ≤ Y2.heap.size := Nat.le_trans hsV y9.size
     have FO := Lib.hid (IH.out bl hszl HOKL.out hlz A (fun x => F x ∧ g ≠ x ∧ c x = j) _ Y2 (by omega) (fun x hx => ⟨(HF.out x hx.1).1, by have := (HF.out x hx.1).2; omega⟩) hyr)
     have HWZ := Lib.hid (Dt.At.keeps (Keeps.of_grown y9 (fun x (hx : w.heap.size ≤ x) e => by injection e with e; omega)) _ _ hwz)
     have HZZ := Lib.hid (Dt.At.keeps (Keeps.of_grown y9 (fun x (hx : w.heap.size ≤ x) e => by injection e with e; omega)) _ _ hzz)
     have HY := Lib.hid (And.intro y2 (And.intro y3 (And.intro y4 (And.intro y5 (And.intro y6 (And.intro y7 (And.intro y8 (And.intro hyk (And.intro (y9.os.trans hbV9.os) (And.intro (y9.tape.trans hbV9.tape) (y9.output.trans hbV9.output)))))))))))
     clear y2 y3 y4 y5 y6 y7 y8 y9 hyk hyr hbV9 hY2 HY1 hx1 s0 s1 s2 s3 s4 f0 f1 f2 f3 f4 hwz hzz hx hb
     clear hK K
     try simp only [zt,zs,zz,Act.put,zi,zy,zx]
     refine wpAnyH_done (by kernel_rfl) ?_ _
     refine NoPanic.normal ?_
     clear hHeld
     go_wp2_with fail
     refine FO.out.mono ?_
     rintro e w9 ⟨rfl, hr9, hk9, z1, z2, z3, hs9⟩
     obtain ⟨y2, y3, y4, y5, y6, y7, y8, hyk, u1, u2, u3⟩ := HY.out
     have hkz : Keeps (fun x => w.heap.size ≤ x) Y2 w9 := fun x cc T fz hx hh _ => ⟨fz, (hk9 x (Array.getElem?_eq_some_iff.1 hh).1 (fun h => by have := (HF.out x h.1).2; have hx : w.heap.size ≤ x := hx; omega)).trans hh⟩
     have ew := five_is HWZ.out
     have ez := five_is HZZ.out
     have ew2 := congrArg Array.toList ew
     have ez2 := congrArg Array.toList ez
     simp only [List.toList_toArray] at ew2 ez2
     have hstep : ∃ c', RowC F (EH A w.heap.size bs (j + 1) w9) w9 (.slice (some ⟨g, 0, none⟩) m ac) m c' := by
      refine own_step (m1 := .slice wa wb wc) (l1 := .slice wd we wf) (m2 := .slice za zb zc) (l2 := .slice zd ze zf) (lv := .slice ao9 bl.length cc9) hA HF.out hsr HRC.out hlt hFg HX1.out ((hk9 g (by omega) (fun h => h.2.1 rfl)).trans y2) y3 (fun t ht => y8 t (by omega)) HBQ.out (fun t ht => ?_) (by rw [← ew]; exact Dt.At.keeps hkz _ _ HWZ.out) (by rw [← ez]; exact Dt.At.keeps hkz _ _ HZZ.out) (hr9.mono (fun x (h : Y2.heap.size ≤ x) => by show w.heap.size ≤ x; omega) (fun _ h => h)) (fun x hx h1 h2 => (hk9 x (by omega) h2).trans (hyk x hx h1))
      rw [← ew2, ← ez2, Nat.mul_comm 12 j]
      rcases (show t = 0 ∨ t = 1 ∨ t = 2 ∨ t = 3 ∨ t = 4 ∨ t = 5 ∨ t = 6 ∨ t = 7 ∨ t = 8 ∨ t = 9 ∨ t = 10 ∨ t = 11 by omega) with rfl | rfl | rfl | rfl | rfl | rfl | rfl | rfl | rfl | rfl | rfl | rfl
      ·exact y4 0 (by decide)
      ·exact y4 1 (by decide)
      ·exact y4 2 (by decide)
      ·exact y4 3 (by decide)
      ·exact y4 4 (by decide)
      ·exact y5.trans (HTW.out 5 (by decide))
      ·exact y6 0 (by decide)
      ·exact y6 1 (by decide)
      ·exact y6 2 (by decide)
      ·exact y6 3 (by decide)
      ·exact y6 4 (by decide)
      ·exact y7.trans (HTW.out 11 (by decide))
     clear hkz ew ez ew2 ez2
     have hall : ∀ x, x < w.heap.size → ¬ F x → w9.heap[x]? = w.heap[x]? := fun x hx hnF => (hk9 x (by omega) (fun h => hnF h.1)).trans ((hyk x (by omega) (fun e => hnF (e ▸ hFg))).trans (HKEEP.out.1 x hx hnF))
     have HST := Lib.hid hstep
     have HALL := Lib.hid (And.intro hall (And.intro (z1.trans (u1.trans HKEEP.out.2.1)) (And.intro (z2.trans (u2.trans HKEEP.out.2.2.1)) (z3.trans (u3.trans HKEEP.out.2.2.2)))))
     clear hr9 hk9 z1 z2 z3 y2 y3 y4 y5 y6 y7 y8 hyk u1 u2 u3 hstep hall y11 FO
     go_wp2_with fail
     go_roundw
     case rel =>
      obtain ⟨c', hc'⟩ := HST.out
      exact ⟨j + 1, c', by omega, by go_num, hc', by omega, HALL.out.1, HALL.out.2.1, HALL.out.2.2.1, HALL.out.2.2.2⟩
     case measure => simp [intOf]; omega
   ·skip
    obtain ⟨_, q0, q9, q2, q3, q4⟩ := CN.out V_ hx
    go_simp
    refine hK.out _ _ trivial (fun hHeld => ?_)
    clear q0 q9 q2 q3 q4
    clear hK K
    try simp only [zt,zs,zz,Act.put,zi,zy,zx]
    refine wpAnyH_ready (rs := [8]) (by kernel_rfl) (by simp) ?_
    refine (AllReadyH.cons rfl (fun K hK => ?_) AllReadyH.nil)
    obtain ⟨⟨q0, q9, q2, q3, q4⟩, _⟩ := CN.out V_ hx
    go_simp
    refine hK.out _ _ trivial (fun hHeld => ?_)
    clear q0 q9 q2 q3 q4
    clear hK K
    try simp only [zt,zs,zz,Act.put,zi,zy,zx]
    refine wpAnyH_ready (rs := [9]) (by kernel_rfl) (by simp) ?_
    refine (AllReadyH.cons rfl (fun K hK => ?_) AllReadyH.nil)
    go_simp
    refine (copied_any 1000000 (Nat.le_refl _) _ hzj.1 _ V_ ((Dt.At.keeps (Keeps.of_below hb) _ _ HNA.out).mono (fun x h => by have : x < A := h; show x < V_.heap.size; omega))).mono ?_
    rintro e V_9 ⟨cz, rfl, hwz, hbN⟩
    obtain ⟨w0, w1, wa, wb, wc, wd, we, wf, w4, rfl⟩ := At_slices hwz
    have hsN := hbN.size
    have hx : V_9.heap[g]? = some (Obj.cells cur 60 (0, 0)) := (hbN.block _ (by omega)).trans hx
    have hwz := hwz.mono (T := fun x => w.heap.size ≤ x) (fun x h => by have : V_.heap.size ≤ x := h; show w.heap.size ≤ x; omega)
    have hb : Below wr.heap.size wr V_9 := hb.trans (hbN.mono (by omega))
    have hsV : wr.heap.size ≤ V_9.heap.size := hb.size
    clear hbN
    refine hK.out _ _ trivial (fun hHeld => ?_)
    clear hK K
    try simp only [zt,zs,zz,Act.put,zi,zy,zx]
    refine wpAnyH_ready (rs := [15]) (by kernel_rfl) (by simp) ?_
    refine (AllReadyH.cons rfl (fun K hK => ?_) AllReadyH.nil)
    go_simp
    refine (copied_any 1000000 (Nat.le_refl _) _ hzj.2 _ V_9 ((Dt.At.keeps (Keeps.of_below hb) _ _ HDA.out).mono (fun x h => by have : x < A := h; show x < V_9.heap.size; omega))).mono ?_
    rintro e V_159 ⟨cz, rfl, hzz, hbN⟩
    obtain ⟨z0, z1, za, zb, zc, zd, ze, zf, z4, rfl⟩ := At_slices hzz
    have hsN := hbN.size
    have hx : V_159.heap[g]? = some (Obj.cells cur 60 (0, 0)) := (hbN.block _ (by omega)).trans hx
    have hzz := hzz.mono (T := fun x => w.heap.size ≤ x) (fun x h => by have : V_9.heap.size ≤ x := h; show w.heap.size ≤ x; omega)
    have hwz := Dt.At.keeps (Keeps.of_below hbN) _ _ hwz
    have hb : Below wr.heap.size wr V_159 := hb.trans (hbN.mono (by omega))
    have hsV : wr.heap.size ≤ V_159.heap.size := hb.size
    clear hbN
    refine hK.out _ _ trivial (fun hHeld => ?_)
    clear hK K
    try simp only [zt,zs,zz,Act.put,zi,zy,zx]
    refine qtk (i := 16) (v := ?v20) rfl rfl (fun w' hw' => ?h20) hHeld ?r20
    case h20 => go_simp; try with_reducible rfl
    simp only [zt,zs,zz,Act.put,zi,zy,zx]
    refine qtk (i := 17) (v := ?v21) rfl rfl (fun w' hw' => ?h21) hHeld ?r21
    case h21 => go_simp; try with_reducible rfl
    simp only [zt,zs,zz,Act.put,zi,zy,zx]
    refine wpAnyH_ready (rs := [18]) (by kernel_rfl) (by simp) ?_
    refine (AllReadyH.cons rfl (fun K hK => ?_) AllReadyH.nil)
    obtain ⟨⟨q0, q9, q2, q3, q4⟩, r0, r1, r2, r3, r4⟩ := CN.out V_159 hx
    have f0 : V_159.frozen? ⟨g, j * 12, none⟩ = false := by simp [World.frozen?, hx]
    have f1 : V_159.frozen? ⟨g, j * 12 + 1, none⟩ = false := by simp [World.frozen?, hx]
    have f2 : V_159.frozen? ⟨g, j * 12 + 2, none⟩ = false := by simp [World.frozen?, hx]
    have f3 : V_159.frozen? ⟨g, j * 12 + 3, none⟩ = false := by simp [World.frozen?, hx]
    have f4 : V_159.frozen? ⟨g, j * 12 + 4, none⟩ = false := by simp [World.frozen?, hx]
    go_simp
    refine hK.out _ _ trivial (fun hHeld => ?_)
    obtain ⟨Y1, hY1⟩ : ∃ Y, Y = (((((V_159.setCell ⟨g, j * 12, none⟩ (.int .i64 w0)).setCell ⟨g, j * 12 + 1, none⟩ (.string w1)).setCell ⟨g, j * 12 + 2, none⟩ (.slice wa wb wc)).setCell ⟨g, j * 12 + 3, none⟩ (.slice wd we wf)).setCell ⟨g, j * 12 + 4, none⟩ (.int .i64 w4)) := ⟨_, rfl⟩
    have hx1 : Y1.heap[g]? = some (Obj.cells (((((cur.setIfInBounds (j * 12) (.int .i64 w0)).setIfInBounds (j * 12 + 1) (.string w1)).setIfInBounds (j * 12 + 2) (.slice wa wb wc)).setIfInBounds (j * 12 + 3) (.slice wd we wf)).setIfInBounds (j * 12 + 4) (.int .i64 w4)) 60 (0, 0)) := by rw [hY1]; exact heap_setCell_same _ g (j * 12 + 4) _ 60 _ (heap_setCell_same _ g (j * 12 + 3) _ 60 _ (heap_setCell_same _ g (j * 12 + 2) _ 60 _ (heap_setCell_same _ g (j * 12 + 1) _ 60 _ (heap_setCell_same _ g (j * 12) _ 60 _ hx))))
    rw [← hY1]
    have HY1 := Lib.hid hY1
    clear hY1
    have s0 : Y1.cell? ⟨g, j * 12 + 6, none⟩ = cur[j * 12 + 6]? := by rw [Lib.cell_of_heap hx1, Array.getElem?_setIfInBounds_ne (by omega), Array.getElem?_setIfInBounds_ne (by omega), Array.getElem?_setIfInBounds_ne (by omega), Array.getElem?_setIfInBounds_ne (by omega), Array.getElem?_setIfInBounds_ne (by omega)]
    have s1 : Y1.cell? ⟨g, j * 12 + 7, none⟩ = cur[j * 12 + 7]? := by rw [Lib.cell_of_heap hx1, Array.getElem?_setIfInBounds_ne (by omega), Array.getElem?_setIfInBounds_ne (by omega), Array.getElem?_setIfInBounds_ne (by omega), Array.getElem?_setIfInBounds_ne (by omega), Array.getElem?_setIfInBounds_ne (by omega)]
    have s2 : Y1.cell? ⟨g, j * 12 + 8, none⟩ = cur[j * 12 + 8]? := by rw [Lib.cell_of_heap hx1, Array.getElem?_setIfInBounds_ne (by omega), Array.getElem?_setIfInBounds_ne (by omega), Array.getElem?_setIfInBounds_ne (by omega), Array.getElem?_setIfInBounds_ne (by omega), Array.getElem?_setIfInBounds_ne (by omega)]
    have s3 : Y1.cell? ⟨g, j * 12 + 9, none⟩ = cur[j * 12 + 9]? := by rw [Lib.cell_of_heap hx1, Array.getElem?_setIfInBounds_ne (by omega), Array.getElem?_setIfInBounds_ne (by omega), Array.getElem?_setIfInBounds_ne (by omega), Array.getElem?_setIfInBounds_ne (by omega), Array.getElem?_setIfInBounds_ne (by omega)]
    have s4 : Y1.cell? ⟨g, j * 12 + 10, none⟩ = cur[j * 12 + 10]? := by rw [Lib.cell_of_heap hx1, Array.getElem?_setIfInBounds_ne (by omega), Array.getElem?_setIfInBounds_ne (by omega), Array.getElem?_setIfInBounds_ne (by omega), Array.getElem?_setIfInBounds_ne (by omega), Array.getElem?_setIfInBounds_ne (by omega)]
    have v0 := (Lib.cell_of_heap hx _).symm.trans r0
    have v1 := (Lib.cell_of_heap hx _).symm.trans r1
    have v2 := (Lib.cell_of_heap hx _).symm.trans r2
    have v3 := (Lib.cell_of_heap hx _).symm.trans r3
    have v4 := (Lib.cell_of_heap hx _).symm.trans r4
    rw [show cur[j * 12 + 6]? = _ from v0] at s0
    rw [show cur[j * 12 + 7]? = _ from v1] at s1
    rw [show cur[j * 12 + 8]? = _ from v2] at s2
    rw [show cur[j * 12 + 9]? = _ from v3] at s3
    rw [show cur[j * 12 + 10]? = _ from v4] at s4
    clear q0 q9 q2 q3 q4 r0 r1 r2 r3 r4 v0 v1 v2 v3 v4 f0 f1 f2 f3 f4
    clear hK K
    try simp only [zt,zs,zz,Act.put,zi,zy,zx]
    refine qtk (i := 19) (v := ?v22) rfl rfl (fun w' hw' => ?h22) hHeld ?r22
    case h22 => go_simp; try with_reducible rfl
    simp only [zt,zs,zz,Act.put,zi,zy,zx]
    refine qtk (i := 20) (v := ?v23) rfl rfl (fun w' hw' => ?h23) hHeld ?r23
    case h23 => go_simp; try with_reducible rfl
    simp only [zt,zs,zz,Act.put,zi,zy,zx]
    refine wpAnyH_ready (rs := [21]) (by kernel_rfl) (by simp) ?_
    refine (AllReadyH.cons rfl (fun K hK => ?_) AllReadyH.nil)
    have f0 : Y1.frozen? ⟨g, j * 12 + 6, none⟩ = false := by simp [World.frozen?, hx1]
    have f1 : Y1.frozen? ⟨g, j * 12 + 7, none⟩ = false := by simp [World.frozen?, hx1]
    have f2 : Y1.frozen? ⟨g, j * 12 + 8, none⟩ = false := by simp [World.frozen?, hx1]
    have f3 : Y1.frozen? ⟨g, j * 12 + 9, none⟩ = false := by simp [World.frozen?, hx1]
    have f4 : Y1.frozen? ⟨g, j * 12 + 10, none⟩ = false := by simp [World.frozen?, hx1]
    go_simp
    refine hK.out _ _ trivial (fun hHeld => ?_)
    obtain ⟨Y2, hY2⟩ : ∃ Y, Y = (((((Y1.setCell ⟨g, j * 12 + 6, none⟩ (.int .i64 z0)).setCell ⟨g, j * 12 + 7, none⟩ (.string z1)).setCell ⟨g, j * 12 + 8, none⟩ (.slice za zb zc)).setCell ⟨g, j * 12 + 9, none⟩ (.slice zd ze zf)).setCell ⟨g, j * 12 + 10, none⟩ (.int .i64 z4)) := ⟨_, rfl⟩
    obtain ⟨c9, y2, y3, y4, y5, y6, y7, y8, y9⟩ := two_five hx (by omega) HY1.out hY2
    rw [← hY2]
    have hbV9 : Below wr.heap.size wr V_159 := hb
    have hyk : ∀ x, x < wr.heap.size → x ≠ g → Y2.heap[x]? = wr.heap[x]? := fun x hx1 hx2 => (y9.block x (by omega) (fun e => by injection e with e; exact hx2 e)).trans (hbV9.block x hx1)
    have y11 : Y2.cell? ⟨g, j * 12 + 11, none⟩ = some (.slice ao9 bl.length cc9) := by rw [Lib.cell_of_heap y2, y7]; exact HTW.out 11 (by decide)
    have hyr : RowN (fun x => x < A) (fun x => F x ∧ g ≠ x ∧ c x = j) Y2 (.slice ao9 bl.length cc9) bl := HROW.out.keeps (fun x cc T fz hxs hh => ⟨fz, by have hxs : x < A := hxs; rw [hyk x (Array.getElem?_eq_some_iff.1 hh).1 (fun e => by have := (HF.out g hFg).1; omega)]; exact hh⟩) (fun x hx => hyk x (by have := (HF.out x hx.1).2; omega) (fun e => hx.2.1 e.symm))
    have hsY : wr.heap.size ≤ Y2.heap.size := Nat.le_trans hsV y9.size
    have FO := Lib.hid (IH.out bl hszl HOKL.out hlz A (fun x => F x ∧ g ≠ x ∧ c x = j) _ Y2 (by omega) (fun x hx => ⟨(HF.out x hx.1).1, by have := (HF.out x hx.1).2; omega⟩) hyr)
    have HWZ := Lib.hid (Dt.At.keeps (Keeps.of_grown y9 (fun x (hx : w.heap.size ≤ x) e => by injection e with e; omega)) _ _ hwz)
    have HZZ := Lib.hid (Dt.At.keeps (Keeps.of_grown y9 (fun x (hx : w.heap.size ≤ x) e => by injection e with e; omega)) _ _ hzz)
    have HY := Lib.hid (And.intro y2 (And.intro y3 (And.intro y4 (And.intro y5 (And.intro y6 (And.intro y7 (And.intro y8 (And.intro hyk (And.intro (y9.os.trans hbV9.os) (And.intro (y9.tape.trans hbV9.tape) (y9.output.trans hbV9.output)))))))))))
    clear y2 y3 y4 y5 y6 y7 y8 y9 hyk hyr hbV9 hY2 HY1 hx1 s0 s1 s2 s3 s4 f0 f1 f2 f3 f4 hwz hzz hx hb
    clear hK K
    try simp only [zt,zs,zz,Act.put,zi,zy,zx]
    refine wpAnyH_done (by kernel_rfl) ?_ _
    refine NoPanic.normal ?_
    clear hHeld
    go_wp2_with fail
    refine FO.out.mono ?_
    rintro e w9 ⟨rfl, hr9, hk9, z1, z2, z3, hs9⟩
    obtain ⟨y2, y3, y4, y5, y6, y7, y8, hyk, u1, u2, u3⟩ := HY.out
    have hkz : Keeps (fun x => w.heap.size ≤ x) Y2 w9 := fun x cc T fz hx hh _ => ⟨fz, (hk9 x (Array.getElem?_eq_some_iff.1 hh).1 (fun h => by have := (HF.out x h.1).2; have hx : w.heap.size ≤ x := hx; omega)).trans hh⟩
    have ew := five_is HWZ.out
    have ez := five_is HZZ.out
    have ew2 := congrArg Array.toList ew
    have ez2 := congrArg Array.toList ez
    simp only [List.toList_toArray] at ew2 ez2
    have hstep : ∃ c', RowC F (EH A w.heap.size bs (j + 1) w9) w9 (.slice (some ⟨g, 0, none⟩) m ac) m c' := by
     refine own_step (m1 := .slice wa wb wc) (l1 := .slice wd we wf) (m2 := .slice za zb zc) (l2 := .slice zd ze zf) (lv := .slice ao9 bl.length cc9) hA HF.out hsr HRC.out hlt hFg HX1.out ((hk9 g (by omega) (fun h => h.2.1 rfl)).trans y2) y3 (fun t ht => y8 t (by omega)) HBQ.out (fun t ht => ?_) (by rw [← ew]; exact Dt.At.keeps hkz _ _ HWZ.out) (by rw [← ez]; exact Dt.At.keeps hkz _ _ HZZ.out) (hr9.mono (fun x (h : Y2.heap.size ≤ x) => by show w.heap.size ≤ x; omega) (fun _ h => h)) (fun x hx h1 h2 => (hk9 x (by omega) h2).trans (hyk x hx h1))
     rw [← ew2, ← ez2, Nat.mul_comm 12 j]
     rcases (show t = 0 ∨ t = 1 ∨ t = 2 ∨ t = 3 ∨ t = 4 ∨ t = 5 ∨ t = 6 ∨ t = 7 ∨ t = 8 ∨ t = 9 ∨ t = 10 ∨ t = 11 by omega) with rfl | rfl | rfl | rfl | rfl | rfl | rfl | rfl | rfl | rfl | rfl | rfl
     ·exact y4 0 (by decide)
     ·exact y4 1 (by decide)
     ·exact y4 2 (by decide)
     ·exact y4 3 (by decide)
     ·exact y4 4 (by decide)
     ·exact y5.trans (HTW.out 5 (by decide))
     ·exact y6 0 (by decide)
     ·exact y6 1 (by decide)
     ·exact y6 2 (by decide)
     ·exact y6 3 (by decide)
     ·exact y6 4 (by decide)
     ·exact y7.trans (HTW.out 11 (by decide))
    clear hkz ew ez ew2 ez2
    have hall : ∀ x, x < w.heap.size → ¬ F x → w9.heap[x]? = w.heap[x]? := fun x hx hnF => (hk9 x (by omega) (fun h => hnF h.1)).trans ((hyk x (by omega) (fun e => hnF (e ▸ hFg))).trans (HKEEP.out.1 x hx hnF))
    have HST := Lib.hid hstep
    have HALL := Lib.hid (And.intro hall (And.intro (z1.trans (u1.trans HKEEP.out.2.1)) (And.intro (z2.trans (u2.trans HKEEP.out.2.2.1)) (z3.trans (u3.trans HKEEP.out.2.2.2)))))
    clear hr9 hk9 z1 z2 z3 y2 y3 y4 y5 y6 y7 y8 hyk u1 u2 u3 hstep hall y11 FO
    go_wp2_with fail
    go_roundw
    case rel =>
     obtain ⟨c', hc'⟩ := HST.out
     exact ⟨j + 1, c', by omega, by go_num, hc', by omega, HALL.out.1, HALL.out.2.1, HALL.out.2.2.1, HALL.out.2.2.2⟩
    case measure => simp [intOf]; omega
  ·obtain rfl : j = m := by omega
   have q1 : decide ((j : Int) < (j : Int)) = false := decide_eq_false (by omega)
   have hfin : RowN (fun x => w.heap.size ≤ x) F wr (.slice ao j ac) bs := by
    rw [RowN_C, ← HMB.out]
    exact ⟨c, hrc.map (fun _ _ => rfl) (fun _ h => h) (fun i G G' cs hi hG hGG ⟨b, hb1, hb2, _⟩ => ⟨b, hb1, Bd.OAt.mono (fun _ h => h) _ _ _ _ hGG (hb2 hi)⟩)⟩
   have HFIN := Lib.hid hfin
   clear hrc hfin
   go_wp2_with fail
   exact ⟨rfl, .tuple #[], by simp [results, Try.f54, go_sem], (show RetOwnR _ _ _ _ _ _ from ⟨rfl, HFIN.out, HKEEP.out.1, HKEEP.out.2.1, HKEEP.out.2.2.1, HKEEP.out.2.2.2, hsr⟩)⟩
end Go.Proofs.Ytecljchifebljaa
