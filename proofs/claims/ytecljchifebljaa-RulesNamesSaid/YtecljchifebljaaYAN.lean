/- Rules: the iterator that the program's parts hands back. -/
import Derived.Test.YtecljchifebljaaYAM
import Derived.Test.YtecljchifebljaaYAB
import Derived.OwnWalkIn
import Derived.TacticsInMore
import Derived.Test.YtecljchifebljaaYAL
import Derived.Test.YtecljchifebljaaYAE
import Derived.Maps.OwnSet
import Derived.Maps.Own
import Derived.StringKeys
set_option linter.unusedVariables false
set_option linter.unusedSimpArgs false
namespace Go.Proofs.Ytecljchifebljaa
open Go Go.RowKit
attribute [local go_sem] Oper.semAt_some
def PxInv (l : List Dt) (J : Nat → World → Prop) (S : Nat → Prop) (W : World) (iv : Value) (wr : World) : Prop :=
 ∃ (j : Nat) (pre : List Nat), iv = .int .i64 (j : Int) ∧ j ≤ l.length ∧ pix l = pre ++ pixF (l.drop j) j ∧ J pre.length wr ∧ KeepsB S W wr
theorem pixF_dots {l : List Dt} {j : Nat} (h : j < l.length) (hd : l[j].dots = true) : pixF (l.drop j) j = pixF (l.drop (j + 1)) (j + 1) := by
 rw [List.drop_eq_getElem_cons h, pixF, if_pos hd]
theorem pixF_part {l : List Dt} {j : Nat} (h : j < l.length) (hd : l[j].dots = false) : pixF (l.drop j) j = j :: pixF (l.drop (j + 1)) (j + 1) := by
 rw [List.drop_eq_getElem_cons h, pixF, if_neg (by rw [hd]; decide)]
theorem nxt_get {l : List Dt} {j : Nat} (h : j < l.length) : nxtDots (l.drop j) = l[j].dots := by
 rw [List.drop_eq_getElem_cons h]; rfl
theorem nxt_end {l : List Dt} {j : Nat} (h : ¬ j < l.length) : nxtDots (l.drop j) = false := by
 rw [List.drop_eq_nil_of_le (by omega)]; rfl
theorem cf_is {S : Nat → Prop} {w0 wr : World} {d : Dt} {c : Array Value} {g o : Nat} {k5 p5 : Int} {t5 : ByteArray} {mv5 lv5 : Value} (h : Dt.At S w0 d c) (hc : ∀ i, i < 5 → w0.cell? ⟨g, o + i, none⟩ = c[i]?) (hk : KeepsB S w0 wr) (hS : S g)
  (e0 : wr.cell? ⟨g, o, none⟩ = some (.int .i64 k5)) (e1 : wr.cell? ⟨g, o + 1, none⟩ = some (.string t5)) (e2 : wr.cell? ⟨g, o + 2, none⟩ = some mv5) (e3 : wr.cell? ⟨g, o + 3, none⟩ = some lv5) (e4 : wr.cell? ⟨g, o + 4, none⟩ = some (.int .i64 p5)) : c = #[.int .i64 k5, .string t5, mv5, lv5, .int .i64 p5] := by
 obtain ⟨k, t, mv, lv, p, rfl, _, _⟩ := At_form h
 have g0 : some (Value.int .i64 k) = some (Value.int .i64 k5) := (hk.cell hS (hc 0 (by decide))).symm.trans e0
 have g1 : some (Value.string t) = some (Value.string t5) := (hk.cell hS (hc 1 (by decide))).symm.trans e1
 have g2 : some mv = some mv5 := (hk.cell hS (hc 2 (by decide))).symm.trans e2
 have g3 : some lv = some lv5 := (hk.cell hS (hc 3 (by decide))).symm.trans e3
 have g4 : some (Value.int .i64 p) = some (Value.int .i64 p5) := (hk.cell hS (hc 4 (by decide))).symm.trans e4
 injection g0 with g0; injection g1 with g1; injection g2 with g2; injection g3 with g3; injection g4 with g4
 rw [g0, g1, g2, g3, g4]
set_option maxHeartbeats 16000000 in
set_option maxRecDepth 100000 in
theorem parts1_hands {S : Nat → Prop} (n box : Nat) (t : ByteArray) (mv lv : Value) (p : Int) (l : List Dt) (cf : Nat → Array Value) (w0 : World) (hS : S box) (hbw : box < w0.heap.size)
  (hb : w0.heap[box]? = some (Obj.cells #[.int .i64 4, .string t, mv, lv, .int .i64 p] 29 (0, 0))) (hl : LAt S w0 lv l) (hcf : CfAt S w0 lv l cf) (hll : l.length ≤ 10000000) :
  Hands Fence.wide n Try.prog 87 #[.pointer (some ⟨box, 0, none⟩)] (partA cf l) (KeepsB S) (pix l).length w0 := by
 intro lp J Jx W hW hJ hY h0
 have hKW : KeepsB S w0 W := KeepsB.of_below hW
 have hbW : W.heap[box]? = some (Obj.cells #[.int .i64 4, .string t, mv, lv, .int .i64 p] 29 (0, 0)) := by rw [hW.block _ hbw]; exact hb
 have HL0 := Lib.hid (hl.keeps hKW.keeps)
 have HCF : Hid (∀ j (h : j < l.length), Dt.At S w0 l[j] (cf j) ∧ ∀ g o n c, lv = .slice (some ⟨g, o, none⟩) n c → S g ∧ ∀ i, i < 5 → w0.cell? ⟨g, o + j * 5 + i, none⟩ = (cf j)[i]?) := hcf
 have HKW := Lib.hid hKW
 have HJ : Hid (∀ (k : Nat) (A B : World), Below A.heap.size A B → J k A → J k B) := fun k A B h hj => hJ k A B none hj (Below.grownRow h none) (fun r e => by cases e)
 have HY := Lib.hid hY
 have HJ0 := Lib.hid h0
 have HBW := Lib.hid hbW
 have HSB := Lib.hid hS
 have hbl : box < W.heap.size := (Array.getElem?_eq_some_iff.1 hbW).1
 obtain ⟨ao, cap, rfl⟩ := hl.form
 have c0 : W.cell? ⟨box, 0, none⟩ = some (.int .i64 4) := by rw [Lib.cell_of_heap hbW]; rfl
 have c3 : W.cell? ⟨box, 3, none⟩ = some (.slice ao l.length cap) := by rw [Lib.cell_of_heap hbW]; rfl
 clear hW hKW hJ hY h0 hbW hl hcf hb hS
 refine callsIn_of_wp Try.func87 rfl trivial ?_ rfl
 refine wpIn_wide.2 ?_
 simp only [Try.ntmps87, List.size_toArray, List.length_cons, List.length_nil, Nat.reduceAdd, Nat.reduceSub, Array.replicate_succ, Array.replicate_zero, List.push_toArray, List.append_toArray, List.nil_append, List.cons_append]
 go_wp2_with fail
 clear c0 c3
 go_loopw [12] (fun iv wr => PxInv l J S W iv wr) (fun iv _ => l.length - (intOf iv).toNat)
 case atStart => exact ⟨0, [], rfl, Nat.zero_le _, rfl, HJ0.out, KeepsB.refl _ _⟩
 case round =>
  obtain ⟨j, pre, rfl, hj, hpx, hJr, hkr⟩ := hrel
  have HPX := Lib.hid hpx
  have HJR := Lib.hid hJr
  have HKR := Lib.hid hkr
  clear hpx hJr hkr
  by_cases hlt : j < l.length
  ·have q1 : decide ((j : Int) < (l.length : Int)) = true := decide_eq_true (by omega)
   obtain ⟨g, o, k5, t5, mv5, lv5, p5, he5, hSg, _, hat, e0, e1, e2, e3, e4, o5, o6⟩ := (HL0.out.keeps HKR.out.keeps).get j hlt
   subst he5
   obtain ⟨d, hd⟩ : ∃ d, d = l[j] := ⟨_, rfl⟩
   have hcfj : cf j = #[.int .i64 k5, .string t5, mv5, lv5, .int .i64 p5] := cf_is (HCF.out j hlt).1 ((HCF.out j hlt).2 g o _ _ rfl).2 (HKW.out.trans HKR.out) hSg e0 e1 e2 e3 e4
   rw [← hd] at hat
   obtain ⟨dk, dt, dms, dl, dp⟩ := d
   have hat0 := hat
   rw [At_mk] at hat
   obtain ⟨mv6, lv6, e6, hM6, hL6⟩ := hat
   simp only [Array.mk.injEq, List.cons.injEq, Value.int.injEq, Value.string.injEq, true_and, and_true] at e6
   obtain ⟨rfl, rfl, rfl, rfl, rfl⟩ := e6
   obtain ⟨mo6, mc6, rfl⟩ := MAt.form2 hM6
   obtain ⟨lo6, lc6, rfl⟩ := hL6.form
   have HAT := Lib.hid hat0
   have HD := Lib.hid hd
   have HCFJ := Lib.hid hcfj
   have hbY : Below wr.heap.size wr (wr.alloc (.cells #[.int .i64 k5, .string t5, .slice mo6 dms.length mc6, .slice lo6 dl.length lc6, .int .i64 p5] 29)) := (Below.refl _ _).alloc (Nat.le_refl _) _
   have hxY := alloc_at wr (.cells #[.int .i64 k5, .string t5, .slice mo6 dms.length mc6, .slice lo6 dl.length lc6, .int .i64 p5] 29)
   have hsY : (wr.alloc (.cells #[.int .i64 k5, .string t5, .slice mo6 dms.length mc6, .slice lo6 dl.length lc6, .int .i64 p5] 29)).heap.size = wr.heap.size + 1 := by simp
   obtain ⟨Y, hY⟩ : ∃ Y, Y = wr.alloc (.cells #[.int .i64 k5, .string t5, .slice mo6 dms.length mc6, .slice lo6 dl.length lc6, .int .i64 p5] 29) := ⟨_, rfl⟩
   rw [← hY] at hbY hxY hsY
   have HYE := Lib.hid hY
   have HBY := Lib.hid hbY
   have HYX := Lib.hid hxY
   obtain ⟨fzb, hbr⟩ := HKR.out box _ _ _ HSB.out HBW.out
   have hbrl : box < wr.heap.size := (Array.getElem?_eq_some_iff.1 hbr).1
   have hbY2 : Y.heap[box]? = some (Obj.cells #[.int .i64 4, .string t, mv, .slice (some ⟨g, o, none⟩) l.length cap, .int .i64 p] 29 fzb) := by rw [hbY.block _ hbrl]; exact hbr
   have bx3 : Y.cell? ⟨box, 3, none⟩ = some (.slice (some ⟨g, o, none⟩) l.length cap) := by rw [Lib.cell_of_heap hbY2]; rfl
   clear hM6 hL6 hat0 hd hcfj hY hbY hxY hbr hbY2 hSg
   by_cases hn : j + 1 < l.length
   ·have q2 : decide ((j : Int) + 1 < (l.length : Int)) = true := decide_eq_true (by omega)
    have hLY := (HL0.out.keeps (HKR.out.trans (KeepsB.of_below HBY.out)).keeps)
    obtain ⟨g', o', k8, t8, mv8, lv8, p8, he8, _, _, hat8, u0, u1, u2, u3, u4, w5, w6⟩ := hLY.get (j + 1) hn
    simp only [Option.some.injEq, Addr.mk.injEq, and_true] at he8
    obtain ⟨rfl, rfl⟩ := he8
    have F8 := Lib.hid (isdots_any hat8 Y)
    obtain ⟨nb, hnb⟩ : ∃ b, b = l[j + 1].dots := ⟨_, rfl⟩
    rw [← hnb] at F8
    have HNB : Hid (nxtDots (l.drop (j + 1)) = nb) := by show _ = _; rw [nxt_get hn, hnb]
    clear hnb hat8 hLY
    go_upto_region 4 with fail
    rw [← HYE.out]
    clear e0 e1 e2 e3 e4
    go_wp2_with fail
    refine F8.out.mono ?_
    rintro e w5 ⟨rfl, hb5⟩
    have HYX5 : Hid (w5.heap[wr.heap.size]? = some (Obj.cells #[.int .i64 k5, .string t5, .slice mo6 dms.length mc6, .slice lo6 dl.length lc6, .int .i64 p5] 29 (0, 0))) := by show _ = _; rw [hb5.block _ (by omega)]; exact HYX.out
    have HBY5 := Lib.hid (HBY.out.trans (hb5.mono HBY.out.size))
    clear u0 u1 u2 u3 u4 bx3 hb5 F8
    go_upto_region 5 with fail
    have yx : w5.heap[wr.heap.size]? = some (Obj.cells #[.int .i64 k5, .string t5, .slice mo6 dms.length mc6, .slice lo6 dl.length lc6, .int .i64 p5] 29 (0, 0)) := HYX5.out
    have y0 : w5.cell? ⟨wr.heap.size, 0, none⟩ = some (.int .i64 k5) := by rw [Lib.cell_of_heap yx]; rfl
    have y1 : w5.cell? ⟨wr.heap.size, 1, none⟩ = some (.string t5) := by rw [Lib.cell_of_heap yx]; rfl
    have y2 : w5.cell? ⟨wr.heap.size, 2, none⟩ = some (.slice mo6 dms.length mc6) := by rw [Lib.cell_of_heap yx]; rfl
    have y3 : w5.cell? ⟨wr.heap.size, 3, none⟩ = some (.slice lo6 dl.length lc6) := by rw [Lib.cell_of_heap yx]; rfl
    have y4 : w5.cell? ⟨wr.heap.size, 4, none⟩ = some (.int .i64 p5) := by rw [Lib.cell_of_heap yx]; rfl
    clear yx
    have FI := Lib.hid (isdots_any (HAT.out) w5)
    obtain ⟨b, hb⟩ : ∃ b, b = (Dt.mk k5 t5 dms dl p5).dots := ⟨_, rfl⟩
    rw [← hb] at FI
    have HBB : Hid (l[j].dots = b) := by show _ = _; rw [← HD.out]; exact hb.symm
    clear hb
    cases b with
    | true =>
     have HPX2 : Hid (pix l = pre ++ pixF (l.drop (j + 1)) (j + 1)) := by show _ = _; rw [HPX.out, pixF_dots hlt HBB.out]
     go_wp2_with fail
     refine FI.out.mono ?_
     rintro e w7 ⟨rfl, hb7⟩
     have HB7 := Lib.hid (HBY5.out.trans (hb7.mono HBY5.out.size))
     clear y0 y1 y2 y3 y4 hb7
     go_wp2_with fail
     go_roundw
     case rel =>
      first
       | exact ⟨j + 1, pre, by go_num, by omega, HPX2.out, HJ.out _ _ _ HB7.out HJR.out, HKR.out.trans (KeepsB.of_below HB7.out)⟩
       | exact ⟨_, _, _, _, ⟨j + 1, pre, rfl, by omega, HPX2.out, HJ.out _ _ _ HB7.out HJR.out, HKR.out.trans (KeepsB.of_below HB7.out)⟩, rfl, rfl, rfl, by go_num⟩
     case measure => simp [intOf]; omega
    | false =>
     have hpf := pixF_part hlt HBB.out
     have hkl : pre.length < (pix l).length := by rw [HPX.out, hpf]; simp
     have hkj : (pix l)[pre.length] = j := by
      have h1 : (pix l)[pre.length]? = some j := by rw [HPX.out, hpf]; simp
      rw [List.getElem?_eq_getElem hkl] at h1
      injection h1
     have HPX2 : Hid (pix l = (pre ++ [j]) ++ pixF (l.drop (j + 1)) (j + 1)) := by show _ = _; rw [HPX.out, hpf]; simp
     have HPA : Hid (partA cf l pre.length = #[.agg #[.int .i64 k5, .string t5, .slice mo6 dms.length mc6, .slice lo6 dl.length lc6, .int .i64 p5], .bool nb]) := by
      show _ = _
      rw [partA_at cf l _ hkl, hkj, HCFJ.out, HNB.out]
     have HKL := Lib.hid hkl
     clear hpf hkj hkl
     go_upto_region 5 with fail
     rename_i K hK
     refine (wpIn_wide (n := n)).1 ?_
     gi_wp2
     refine ⟨trivial, fun h => by simp [Fence.wide] at h, (callsIn_wide.2 FI.out).mono ?_⟩
     rintro e w7 ⟨rfl, hb7⟩
     have hs7 := hb7.size
     have HB7 := Lib.hid (HBY5.out.trans (hb7.mono HBY5.out.size))
     have yx : w7.heap[wr.heap.size]? = some (Obj.cells #[.int .i64 k5, .string t5, .slice mo6 dms.length mc6, .slice lo6 dl.length lc6, .int .i64 p5] 29 (0, 0)) := (hb7.block _ (Array.getElem?_eq_some_iff.1 HYX5.out).1).trans HYX5.out
     have z0 : w7.cell? ⟨wr.heap.size, 0, none⟩ = some (.int .i64 k5) := by rw [Lib.cell_of_heap yx]; rfl
     have z1 : w7.cell? ⟨wr.heap.size, 1, none⟩ = some (.string t5) := by rw [Lib.cell_of_heap yx]; rfl
     have z2 : w7.cell? ⟨wr.heap.size, 2, none⟩ = some (.slice mo6 dms.length mc6) := by rw [Lib.cell_of_heap yx]; rfl
     have z3 : w7.cell? ⟨wr.heap.size, 3, none⟩ = some (.slice lo6 dl.length lc6) := by rw [Lib.cell_of_heap yx]; rfl
     have z4 : w7.cell? ⟨wr.heap.size, 4, none⟩ = some (.int .i64 p5) := by rw [Lib.cell_of_heap yx]; rfl
     obtain ⟨fn, tmps, assign, body, hy, hR⟩ := HY.out pre.length w7 HKL.out (HJ.out _ _ _ HB7.out HJR.out)
     rw [HPA.out] at hy
     clear yx y0 y1 y2 y3 y4 hb7
     gi_wp2
     first
      | refine hR.mono ?_
      | refine ⟨fun h => by simp [Fence.wide] at h, hR.mono ?_⟩
      | refine ⟨fun _ _ => trivial, fun h => by simp [Fence.wide] at h, hR.mono ?_⟩
     have HHK := Lib.hid hK
     clear hK hR hy z0 z1 z2 z3 z4
     rintro e W3 (⟨rfl, hJ3, hk3⟩ | ⟨rfl, hJx3⟩)
     ·have HK3 := Lib.hid ((HKR.out.trans (KeepsB.of_below HB7.out)).trans hk3)
      have HJ3 : Hid (J (pre ++ [j]).length W3) := by show J _ W3; rw [List.length_append]; exact hJ3
      clear hJ3 hk3
      gi_wp2
      refine HHK.out _ _ ?_
      go_wp2_with fail
      go_roundw
      case rel =>
       first
        | exact ⟨j + 1, pre ++ [j], by go_num, by omega, HPX2.out, HJ3.out, HK3.out⟩
        | exact ⟨_, _, _, _, ⟨j + 1, pre ++ [j], rfl, by omega, HPX2.out, HJ3.out, HK3.out⟩, rfl, rfl, rfl, by go_num⟩
      case measure => simp [intOf]; omega
     ·gi_wp2
      refine HHK.out _ _ ?_
      go_wp2_with fail
      refine bodyPost_ret (results_none rfl _ _ _) rfl ?_
      exact ⟨⟨_, rfl⟩, .inr ⟨_, HKL.out, hJx3⟩⟩
   ·have q2 : decide ((j : Int) + 1 < (l.length : Int)) = false := decide_eq_false (by omega)
    obtain ⟨nb, hnb⟩ : ∃ b, b = false := ⟨_, rfl⟩
    have HNB : Hid (nxtDots (l.drop (j + 1)) = nb) := by show _ = _; rw [nxt_end hn, hnb]
    go_upto_region 4 with fail
    rw [← HYE.out]
    clear e0 e1 e2 e3 e4
    go_upto_region 5 with fail
    clear bx3
    subst hnb
    have yx : Y.heap[wr.heap.size]? = some (Obj.cells #[.int .i64 k5, .string t5, .slice mo6 dms.length mc6, .slice lo6 dl.length lc6, .int .i64 p5] 29 (0, 0)) := HYX.out
    have y0 : Y.cell? ⟨wr.heap.size, 0, none⟩ = some (.int .i64 k5) := by rw [Lib.cell_of_heap yx]; rfl
    have y1 : Y.cell? ⟨wr.heap.size, 1, none⟩ = some (.string t5) := by rw [Lib.cell_of_heap yx]; rfl
    have y2 : Y.cell? ⟨wr.heap.size, 2, none⟩ = some (.slice mo6 dms.length mc6) := by rw [Lib.cell_of_heap yx]; rfl
    have y3 : Y.cell? ⟨wr.heap.size, 3, none⟩ = some (.slice lo6 dl.length lc6) := by rw [Lib.cell_of_heap yx]; rfl
    have y4 : Y.cell? ⟨wr.heap.size, 4, none⟩ = some (.int .i64 p5) := by rw [Lib.cell_of_heap yx]; rfl
    clear yx
    have FI := Lib.hid (isdots_any (HAT.out) Y)
    obtain ⟨b, hb⟩ : ∃ b, b = (Dt.mk k5 t5 dms dl p5).dots := ⟨_, rfl⟩
    rw [← hb] at FI
    have HBB : Hid (l[j].dots = b) := by show _ = _; rw [← HD.out]; exact hb.symm
    clear hb
    cases b with
    | true =>
     have HPX2 : Hid (pix l = pre ++ pixF (l.drop (j + 1)) (j + 1)) := by show _ = _; rw [HPX.out, pixF_dots hlt HBB.out]
     go_wp2_with fail
     refine FI.out.mono ?_
     rintro e w7 ⟨rfl, hb7⟩
     have HB7 := Lib.hid (HBY.out.trans (hb7.mono HBY.out.size))
     clear y0 y1 y2 y3 y4 hb7
     go_wp2_with fail
     go_roundw
     case rel =>
      first
       | exact ⟨j + 1, pre, by go_num, by omega, HPX2.out, HJ.out _ _ _ HB7.out HJR.out, HKR.out.trans (KeepsB.of_below HB7.out)⟩
       | exact ⟨_, _, _, _, ⟨j + 1, pre, rfl, by omega, HPX2.out, HJ.out _ _ _ HB7.out HJR.out, HKR.out.trans (KeepsB.of_below HB7.out)⟩, rfl, rfl, rfl, by go_num⟩
     case measure => simp [intOf]; omega
    | false =>
     have hpf := pixF_part hlt HBB.out
     have hkl : pre.length < (pix l).length := by rw [HPX.out, hpf]; simp
     have hkj : (pix l)[pre.length] = j := by
      have h1 : (pix l)[pre.length]? = some j := by rw [HPX.out, hpf]; simp
      rw [List.getElem?_eq_getElem hkl] at h1
      injection h1
     have HPX2 : Hid (pix l = (pre ++ [j]) ++ pixF (l.drop (j + 1)) (j + 1)) := by show _ = _; rw [HPX.out, hpf]; simp
     have HPA : Hid (partA cf l pre.length = #[.agg #[.int .i64 k5, .string t5, .slice mo6 dms.length mc6, .slice lo6 dl.length lc6, .int .i64 p5], .bool false]) := by
      show _ = _
      rw [partA_at cf l _ hkl, hkj, HCFJ.out, HNB.out]
     have HKL := Lib.hid hkl
     clear hpf hkj hkl
     go_upto_region 5 with fail
     rename_i K hK
     refine (wpIn_wide (n := n)).1 ?_
     gi_wp2
     refine ⟨trivial, fun h => by simp [Fence.wide] at h, (callsIn_wide.2 FI.out).mono ?_⟩
     rintro e w7 ⟨rfl, hb7⟩
     have hs7 := hb7.size
     have HB7 := Lib.hid (HBY.out.trans (hb7.mono HBY.out.size))
     have yx : w7.heap[wr.heap.size]? = some (Obj.cells #[.int .i64 k5, .string t5, .slice mo6 dms.length mc6, .slice lo6 dl.length lc6, .int .i64 p5] 29 (0, 0)) := (hb7.block _ (Array.getElem?_eq_some_iff.1 HYX.out).1).trans HYX.out
     have z0 : w7.cell? ⟨wr.heap.size, 0, none⟩ = some (.int .i64 k5) := by rw [Lib.cell_of_heap yx]; rfl
     have z1 : w7.cell? ⟨wr.heap.size, 1, none⟩ = some (.string t5) := by rw [Lib.cell_of_heap yx]; rfl
     have z2 : w7.cell? ⟨wr.heap.size, 2, none⟩ = some (.slice mo6 dms.length mc6) := by rw [Lib.cell_of_heap yx]; rfl
     have z3 : w7.cell? ⟨wr.heap.size, 3, none⟩ = some (.slice lo6 dl.length lc6) := by rw [Lib.cell_of_heap yx]; rfl
     have z4 : w7.cell? ⟨wr.heap.size, 4, none⟩ = some (.int .i64 p5) := by rw [Lib.cell_of_heap yx]; rfl
     obtain ⟨fn, tmps, assign, body, hy, hR⟩ := HY.out pre.length w7 HKL.out (HJ.out _ _ _ HB7.out HJR.out)
     rw [HPA.out] at hy
     clear yx y0 y1 y2 y3 y4 hb7
     gi_wp2
     first
      | refine hR.mono ?_
      | refine ⟨fun h => by simp [Fence.wide] at h, hR.mono ?_⟩
      | refine ⟨fun _ _ => trivial, fun h => by simp [Fence.wide] at h, hR.mono ?_⟩
     have HHK := Lib.hid hK
     clear hK hR hy z0 z1 z2 z3 z4
     rintro e W3 (⟨rfl, hJ3, hk3⟩ | ⟨rfl, hJx3⟩)
     ·have HK3 := Lib.hid ((HKR.out.trans (KeepsB.of_below HB7.out)).trans hk3)
      have HJ3 : Hid (J (pre ++ [j]).length W3) := by show J _ W3; rw [List.length_append]; exact hJ3
      clear hJ3 hk3
      gi_wp2
      refine HHK.out _ _ ?_
      go_wp2_with fail
      go_roundw
      case rel =>
       first
        | exact ⟨j + 1, pre ++ [j], by go_num, by omega, HPX2.out, HJ3.out, HK3.out⟩
        | exact ⟨_, _, _, _, ⟨j + 1, pre ++ [j], rfl, by omega, HPX2.out, HJ3.out, HK3.out⟩, rfl, rfl, rfl, by go_num⟩
      case measure => simp [intOf]; omega
     ·gi_wp2
      refine HHK.out _ _ ?_
      go_wp2_with fail
      refine bodyPost_ret (results_none rfl _ _ _) rfl ?_
      exact ⟨⟨_, rfl⟩, .inr ⟨_, HKL.out, hJx3⟩⟩
  ·obtain rfl : j = l.length := by omega
   have q1 : decide ((l.length : Int) < (l.length : Int)) = false := decide_eq_false (by omega)
   have HE : Hid (J (pix l).length wr) := by
    have h := HPX.out
    rw [List.drop_length] at h
    simp only [pixF, List.append_nil] at h
    show J _ wr
    rw [h]; exact HJR.out
   go_wp2_with fail
   go_end0
   exact ⟨⟨_, rfl⟩, .inl HE.out⟩
end Go.Proofs.Ytecljchifebljaa
namespace Go.Proofs.Ytecljchifebljaa
open Go Go.RowKit
theorem run_appP (w : World) (B ty : Nat) (v : Value) (n : Nat) (xs : List Value) (hown : w.ownsRow B 60 12 v n xs) (g0 c : Nat) (news : List Value) (hl : news.length = 12)
  (hnews : ∀ j u, news[j]? = some u → w.cell? ⟨g0, j, none⟩ = some u) (h1 : ∀ u ∈ news, u.oneCell' = true) (hn : n + 1 ≤ 1000000000) (hB : B ≤ w.heap.size) :
  ∃ v' w', (Builtin.append_ #[40, 40] ty #[v, .slice (some ⟨g0, 0, none⟩) 1 c]).run Try.prog w = .ok v' w' ∧ w'.ownsRow B 60 12 v' (n + 1) (xs ++ news) ∧ w.grownBy w' v.ownBlock ∧ (v'.ownBlock = v.ownBlock ∨ v'.ownBlock = some w.heap.size) := by
 obtain ⟨i, hi, hz, hs, hb⟩ := info_parts infoP12
 have hnews' : ∀ j u, news[j]? = some u → w.cell? ((⟨g0, 0, none⟩ : Addr).add j) = some u := by
  intro j u hu
  have e : (⟨g0, 0, none⟩ : Addr).add j = ⟨g0, j, none⟩ := by unfold Addr.add; split <;> simp_all
  rw [e]; exact hnews j u hu
 have hl1 : news.length = 1 * 12 := by omega
 obtain ⟨v', w', hr, h2, h3, _⟩ := run_append_own (P := Try.prog) w B 40 ty 60 i (.agg ZPB) 12 192 Try.underlying40 hi hz hs hb rfl (by decide) v n xs hown ⟨g0, 0, none⟩ 1 c news hl1 hnews' h1 (by unfold maxLen; omega) (by omega) hB
 refine ⟨v', w', hr, h2, h3, ?_⟩
 have hl2 : news.length = 1 * i.size := by rw [hs]; exact hl1
 rcases hown.2 with ⟨rfl, rfl⟩ | ⟨g, cap, cur, rfl, hbg, hg, hnc, hcm, hcs, htake⟩
 ·have hr2 := run_append_nil (P := Try.prog) w 40 ty 60 i (.agg ZPB) Try.underlying40 hi hz ⟨g0, 0, none⟩ 1 c news hl2 hnews' (by decide) (by decide) (by rw [hb]; decide)
  rw [hr] at hr2
  injection hr2 with e1 e2
  right; rw [e1]; rfl
 ·by_cases hroom : n + 1 ≤ cap
  ·have hfit : n * i.size + news.length ≤ cur.size := by rw [hs, hl, hcs]; omega
   have hr2 := run_append_room (P := Try.prog) w 40 ty 60 i Try.underlying40 hi g n cap cur hg ⟨g0, 0, none⟩ 1 c news hl2 hnews' h1 hroom hfit
   rw [hr] at hr2
   injection hr2 with e1 e2
   left; rw [e1]; rfl
  ·have hlo : xs.length = n * i.size := by rw [hs]; exact hown.1
   have hr2 := run_append_grow (P := Try.prog) w 40 ty 60 i (.agg ZPB) Try.underlying40 hi hz ⟨g, 0, none⟩ n cap xs hlo (hown.cells (g := g) rfl) ⟨g0, 0, none⟩ 1 c news hl2 hnews' (by omega) (by omega) (growslice_fits (by omega) (by rw [hb]; omega))
   rw [hr] at hr2
   injection hr2 with e1 e2
   right; rw [e1]; rfl
theorem wpList_appP {ops : Array Oper} {rest : List Oper} {o : Oper} {a : Act} {w : World} {Q : Exit → Act → World → Prop} (hgd : o.guard = none) (s x : Operand)
  (ho : o.op = .call { callee := .builtin .append, args := #[s, x], argTypes := #[40, 40] }) (B : Nat) (v : Value) (n : Nat) (xs : List Value) (hs : a.eval s = v) (hown : w.ownsRow B 60 12 v n xs)
  (g0 c : Nat) (hx : a.eval x = .slice (some ⟨g0, 0, none⟩) 1 c) (news : List Value) (hl : news.length = 12)
  (hnews : ∀ j u, news[j]? = some u → w.cell? ⟨g0, j, none⟩ = some u) (h1 : ∀ u ∈ news, u.oneCell' = true) (hn : n + 1 ≤ 1000000000) (hB : B ≤ w.heap.size)
  (h : ∀ v' w', w'.ownsRow B 60 12 v' (n + 1) (xs ++ news) → w.grownBy w' v.ownBlock → (v'.ownBlock = v.ownBlock ∨ v'.ownBlock = some w.heap.size) → wpList Try.prog ops Q rest (a.put o.dst v') w') : wpList Try.prog ops Q (o :: rest) a w := by
 refine wpList_plain hgd fun K hK => ?_
 obtain ⟨v', w', hr, h2, h3, h4⟩ := run_appP w B o.type v n xs hown g0 c news hl hnews h1 hn hB
 unfold Oper.wp execOp
 simp only [ho, resolve, invoke, builtin, Sem.run_bind, Sem.run_pure, Result.andThen_ok, List.map_toArray, List.map_cons, List.map_nil, hs, hx, hr]
 exact hK _ _ (h v' w' h2 h3 h4)
theorem OwnPI.snoc {S : Nat → Prop} {B : Nat} {w : World} {v : Value} {bs : List Bd} {b : Bd} {cs : Array Value} (h : OwnPI S B w v bs) (h5 : cs.size = 12) (hd : Bd.PAt S w b cs) (hS : ∀ x, v.ownBlock = some x → ¬ S x) :
  ∃ xs, w.ownsRow B 60 12 v bs.length xs ∧ ∀ v' w9, w9.ownsRow B 60 12 v' (bs.length + 1) (xs ++ cs.toList) → w.grownBy w9 v.ownBlock → OwnPI S B w9 v' (bs ++ [b]) := by
 obtain ⟨xs, ho, hx⟩ := h
 refine ⟨xs, ho, fun v' w9 h9 hg => ⟨_, by simpa using h9, fun j hj => ?_⟩⟩
 have hk : KeepsB S w w9 := KeepsB.of_grown hg (fun g hs e => hS g e.symm hs)
 have hl : xs.length = bs.length * 12 := ho.1
 by_cases hlt : j < bs.length
 ·obtain ⟨c, c5, c1, c3⟩ := hx j hlt
  refine ⟨c, c5, fun i hi => ?_, ?_⟩
  ·rw [List.getElem?_append_left (by omega)]; exact c1 i hi
  ·rw [List.getElem_append_left hlt]; exact Bd.PAt.keeps hk _ _ c3
 ·have hj' : j = bs.length := by simp at hj; omega
  subst hj'
  refine ⟨cs, h5, fun i hi => ?_, ?_⟩
  ·rw [List.getElem?_append_right (by omega), show 12 * bs.length + i - xs.length = i by omega]; simp
  ·rw [List.getElem_append_right (by omega)]
   simp
   exact Bd.PAt.keeps hk _ _ hd
set_option maxHeartbeats 4000000 in
set_option maxRecDepth 100000 in
theorem parts0_hands {Kp : World → World → Prop} (n box : Nat) (k : Int) (hk4 : k ≠ 4) (t : ByteArray) (mv lv : Value) (p : Int) (A : Nat → Array Value) (w0 : World) (hbw : box < w0.heap.size)
  (hb : w0.heap[box]? = some (Obj.cells #[.int .i64 k, .string t, mv, lv, .int .i64 p] 29 (0, 0))) :
  Hands Fence.wide n Try.prog 87 #[.pointer (some ⟨box, 0, none⟩)] A Kp 0 w0 := by
 intro lp J Jx W hW hJ hY h0
 have hbW : W.heap[box]? = some (Obj.cells #[.int .i64 k, .string t, mv, lv, .int .i64 p] 29 (0, 0)) := by rw [hW.block _ hbw]; exact hb
 have c0 : W.cell? ⟨box, 0, none⟩ = some (.int .i64 k) := by rw [Lib.cell_of_heap hbW]; rfl
 have q4 : (k != 4) = true := by rw [bne_iff_ne]; exact hk4
 clear hY hJ hW hb hbW
 refine callsIn_of_wp Try.func87 rfl trivial ?_ rfl
 refine wpIn_wide.2 ?_
 simp only [Try.ntmps87, List.size_toArray, List.length_cons, List.length_nil, Nat.reduceAdd, Nat.reduceSub, Array.replicate_succ, Array.replicate_zero, List.push_toArray, List.append_toArray, List.nil_append, List.cons_append]
 go_wp2_with fail
 refine bodyPost_ret (results_none rfl _ _ _) rfl ?_
 exact ⟨⟨_, rfl⟩, .inl h0⟩
def dZ : Dt := .mk 0 ⟨#[]⟩ [] [] 0
def vB (x : Dt × Int) : Bd := .mk x.1 x.2 dZ []
/-- The variables of the first k parts that are no dots. -/
def vUp (V : Dt → Bool) (l : List Dt) (n : Int) (k : Nat) : List (Dt × Int) := ((pix l).take k).flatMap fun j => match l[j]? with | some d => d.vars V (if nxtDots (l.drop (j + 1)) = true then n + 1 else n) | none => []
theorem vars_dots {ls : List ByteArray} {d : Dt} (h : d.dots = true) (hwf : d.wf) (n : Int) : d.vars (isVar ls) n = [] := by
 have hk : d.kind = 3 := by unfold Dt.dots Dt.isS at h; simp only [Bool.and_eq_true, beq_iff_eq] at h; exact h.1
 have hp : d.parts = [] := hwf.leaf (by rw [hk]; decide)
 have hv : isVar ls d = false := by unfold isVar; rw [h]; simp
 obtain ⟨k, t, ms, l, p⟩ := d
 rw [vars_mk, hv, if_neg (by decide)]
 rw [show l = [] from hp]; rfl
theorem varss_pix (ls : List ByteArray) (L : List Dt) (n : Int) : ∀ (l : List Dt) (i : Nat), wfs l → L.drop i = l →
  ((pixF l i).flatMap fun j => match L[j]? with | some d => d.vars (isVar ls) (if nxtDots (L.drop (j + 1)) = true then n + 1 else n) | none => []) = varss (isVar ls) l n
 | [], i, _, _ => by simp [pixF, varss]
 | d :: r, i, hw, hL => by
  have hlt : i < L.length := by
   by_cases h : i < L.length
   ·exact h
   ·rw [List.drop_eq_nil_of_le (by omega)] at hL; cases hL
  have h2 : L[i] = d ∧ L.drop (i + 1) = r := by
   rw [List.drop_eq_getElem_cons hlt] at hL
   injection hL with h3 h4; exact ⟨h3, h4⟩
  have ih := varss_pix ls L n r (i + 1) hw.2 h2.2
  unfold pixF
  rw [varss_cons]
  cases hd : d.dots with
  | true => rw [if_pos rfl, ih, vars_dots hd hw.1]; simp
  | false =>
   rw [if_neg (by decide), List.flatMap_cons, ih, List.getElem?_eq_getElem hlt, h2.1, h2.2]
theorem vUp_all (ls : List ByteArray) (l : List Dt) (n : Int) (hw : wfs l) : vUp (isVar ls) l n (pix l).length = varss (isVar ls) l n := by
 unfold vUp
 rw [List.take_length]
 exact varss_pix ls l n l 0 hw (by simp)
theorem vUp_succ (V : Dt → Bool) (l : List Dt) (n : Int) (k : Nat) (h : k < (pix l).length) : vUp V l n (k + 1) = vUp V l n k ++ (l[(pix l)[k]]'(pix_lt h)).vars V (if nxtDots (l.drop ((pix l)[k] + 1)) = true then n + 1 else n) := by
 unfold vUp
 rw [List.take_succ_eq_append_getElem h, List.flatMap_append]
 congr 1
 simp only [List.flatMap_cons, List.flatMap_nil, List.append_nil]
 rw [List.getElem?_eq_getElem (pix_lt h)]
end Go.Proofs.Ytecljchifebljaa
namespace Go.Proofs.Ytecljchifebljaa
open Go Go.RowKit
open Go.Maps
open Go.WideMaps (keyOf_string_mk)
def litS (s : ByteArray) : Lit := .string s.data.toList
theorem litS_inj {a b : ByteArray} (h : litS a = litS b) : a = b := by
 unfold litS at h
 injection h with h
 exact ByteArray.ext (Array.toList_inj.1 h)
theorem law9 : Keyed Try.prog 9 := string_keyed Try.underlying9
theorem run_makeMap80 (n : Nat) (w : World) : (Instr.makeMap 80 (some (.int .i64 (n : Int)))).run Try.prog w = .ok (.map (some w.heap.size)) (w.alloc (.map #[] 0)) := by
 simp [Instr.makeMap, run_underlying Try.underlying80, asInt, asIntOf]
theorem zero122 (w : World) : (zeroValue 122).run Try.prog w = .ok (.agg #[]) w := by kernel_rfl
def wset (ls : List ByteArray) : DataW Unit := setOf (.agg []) (ls.map litS)
theorem wset_has (ls : List ByteArray) (s : ByteArray) : Maps.has (wset ls) (litS s) = inL ls s := by
 have hk : ∀ x ∈ ls.map litS, WideAt.IsKeyLit x := fun y hy => by obtain ⟨_, _, rfl⟩ := List.mem_map.1 hy; trivial
 unfold wset inL
 rw [has_setOf _ _ _ hk, List.any_map]
 congr 1
 funext x
 have e : (x.toList == s.toList) = (decide (x = s)) := by
  rw [Bool.eq_iff_iff, beq_iff_eq, decide_eq_true_iff]
  constructor
  ·intro h
   rw [Lib.toList_data, Lib.toList_data] at h
   exact ByteArray.ext (Array.toList_inj.1 h)
  ·intro h; rw [h]
 rw [e]
 by_cases h : x = s
 ·subst h
  simp only [Function.comp_apply, decide_true]
  exact WideAt.sameKey_self (a := litS x) (by trivial)
 ·simp only [Function.comp_apply, h, decide_false]
  exact sameKey_ne (fun e => h (litS_inj e))
/-- Block b is the set of these texts. -/
def WordsAt (w : World) (b : Nat) (ls : List ByteArray) : Prop := ∃ m, w.ownsMap Try.prog 9 (unitElem (H := Unit)) b m (wset ls)
theorem ownsMap_block {H : Type} {P : Program} {k : TypeId} {R : Value → Option (DataW H × List MemPlace)} {w w' : World} {b n : Nat} {D : DataW H} (h : w.ownsMap P k R b n D) (e : w'.heap[b]? = w.heap[b]?) : w'.ownsMap P k R b n D := by
 obtain ⟨es, clock, hb, Ft, hs, hD⟩ := h
 exact ⟨es, clock, e.trans hb, Ft, hs, hD⟩
theorem WordsAt.lt {w : World} {b : Nat} {ls : List ByteArray} (h : WordsAt w b ls) : b < w.heap.size := by obtain ⟨m, h⟩ := h; exact h.lt
theorem WordsAt.below {w w' : World} {b : Nat} {ls : List ByteArray} (h : WordsAt w b ls) {B : Nat} (hb : Below B w w') (hB : b < B) : WordsAt w' b ls := by
 obtain ⟨m, h⟩ := h
 exact ⟨m, ownsMap_block h (hb.block b hB)⟩
theorem WordsAt.turn {w w' : World} {b : Nat} {ls : List ByteArray} (h : WordsAt w b ls) {row : Option Nat} (hg : w.grownBy w' row) (hr : row ≠ some b) : WordsAt w' b ls := by
 have hl := h.lt
 obtain ⟨m, h⟩ := h
 exact ⟨m, ownsMap_block h (hg.block b hl (fun e => hr e.symm))⟩
def WdInv (ls : List ByteArray) (w : World) (iv : Value) (wr : World) : Prop :=
 ∃ j m : Nat, j ≤ ls.length ∧ m ≤ j ∧ iv = .int .i64 (j : Int) ∧ wr.ownsMap Try.prog 9 (unitElem (H := Unit)) (w.heap.size + 1) m (wset (ls.take j)) ∧ wr.heap[w.heap.size]? = some (Obj.cells #[.map none] 82 (0, 0)) ∧ wr.heap[w.heap.size + 1 + 1]? = some (Obj.cells #[.map (some (w.heap.size + 1))] 82 (0, 0)) ∧ Below w.heap.size w wr
theorem info82 : (Try.prog.info? 82).map (·.size) = some 1 := by kernel_rfl
def RetWords (ls : List ByteArray) (w : World) (e : Ending) (w' : World) : Prop := ∃ b, e = .returned (.agg #[.map (some b)]) ∧ w.heap.size ≤ b ∧ WordsAt w' b ls ∧ Below w.heap.size w w'
set_option maxHeartbeats 8000000 in
set_option maxRecDepth 100000 in
theorem wordsOf_any (ls : List ByteArray) (v : Value) (w : World) (h : LitsAt w v ls) (hl : ls.length ≤ 1000000) (hs : ∀ s ∈ ls, s.size ≤ 1000000) : Calls Try.prog 44 #[v] w (RetWords ls w) := by
 have HV := Lib.hid h
 obtain ⟨ao, cap, rfl⟩ := h.form
 have HS := Lib.hid hs
 have hmm := fun w => run_makeMap80 ls.length w
 have H0 : Hid (WdInv ls w (.int .i64 0) (((w.alloc (.cells #[.map none] 82)).alloc (.map #[] 0)).alloc (.cells #[.map (some (w.heap.size + 1))] 82))) := by
  have hs1 : (w.alloc (.cells #[.map none] 82)).heap.size = w.heap.size + 1 := by simp
  have hs2 : ((w.alloc (.cells #[.map none] 82)).alloc (.map #[] 0)).heap.size = w.heap.size + 1 + 1 := by simp
  have hm := World.ownsMap_made (H := Unit) (w.alloc (.cells #[.map none] 82)) Try.prog 9 unitElem
  rw [hs1] at hm
  refine ⟨0, 0, Nat.zero_le _, Nat.le_refl _, rfl, ownsMap_block hm (Lib.alloc_old _ _ _ (by simp)), ?_, ?_, (((Below.refl _ _).alloc (Nat.le_refl _) _).alloc (by simp) _).alloc (by simp; omega) _⟩
  ·exact (Lib.alloc_old _ _ _ (by simp; omega)).trans ((Lib.alloc_old _ _ _ (by simp)).trans (alloc_at _ _))
  ·have := alloc_at ((w.alloc (.cells #[.map none] 82)).alloc (.map #[] 0)) (.cells #[.map (some (w.heap.size + 1))] 82)
   rw [hs2] at this; exact this
 clear h hs
 go_enter Try.func44, Try.ntmps44
 go_wp2_with fail
 generalize ((w.alloc (.cells #[.map none] 82)).alloc (.map #[] 0)).alloc (.cells #[.map (some (w.heap.size + 1))] 82) = W0 at H0 ⊢
 clear hmm
 obtain ⟨b1, hb1⟩ : ∃ b, b = w.heap.size := ⟨_, rfl⟩
 obtain ⟨bm, hbm⟩ : ∃ b, b = w.heap.size + 1 := ⟨_, rfl⟩
 obtain ⟨bt, hbt⟩ : ∃ b, b = w.heap.size + 1 + 1 := ⟨_, rfl⟩
 rw [← hbt, ← hbm, ← hb1]
 have HBE : Hid (b1 = w.heap.size ∧ bm = w.heap.size + 1 ∧ bt = w.heap.size + 1 + 1) := ⟨hb1, hbm, hbt⟩
 have hq1 : w.heap.size ≤ b1 := by omega
 have hq2 : b1 < bm := by omega
 have hq3 : bm < bt := by omega
 clear hb1 hbm hbt
 go_loopw [12] (fun iv wr => WdInv ls w iv wr) (fun iv _ => ls.length - (intOf iv).toNat)
 case atStart => exact H0.out
 case round =>
  clear H0
  obtain ⟨j, m, hj, hm, rfl, hown, hc1, hc2, hbw⟩ := hrel
  rw [← HBE.out.1] at hc1
  rw [← HBE.out.2.2, ← HBE.out.2.1] at hc2
  rw [← HBE.out.2.1] at hown
  have HB := Lib.hid hbw
  have HC1 := Lib.hid hc1
  have HC2 := Lib.hid hc2
  have HVr := Lib.hid (HV.out.below hbw)
  have hm9 : m < maxLen := Nat.lt_of_lt_of_le (by omega : m < 2000000) (by decide)
  have m0 : wr.cell? ⟨bt, 0, none⟩ = some (.map (some bm)) := by rw [Lib.cell_of_heap hc2]; rfl
  clear hbw hc1 hc2
  by_cases hlt : j < ls.length
  ·have q1 : decide ((j : Int) < (ls.length : Int)) = true := decide_eq_true (by omega)
   obtain ⟨g, o, rfl, e0⟩ := HVr.out.get j hlt
   have hxs := HS.out ls[j] (List.getElem_mem hlt)
   have hs9 : ls.take (j + 1) = ls.take j ++ [ls[j]] := List.take_succ_eq_append_getElem hlt
   obtain ⟨x, hx⟩ : ∃ x, ls[j] = x := ⟨_, rfl⟩
   rw [hx] at e0 hxs hs9
   have hkey : keyOf Try.prog 9 (.string x) = some (litS x) := keyOf_string_mk Try.underlying9 (Nat.le_trans hxs (by decide))
   have HST : Hid ((wset (ls.take j)).put (litS x) (.agg []) = wset (ls.take (j + 1))) := by
    show _ = _
    unfold wset
    rw [hs9, List.map_append, List.map_singleton, setOf_snoc]
   clear hx hs9
   go_wp2_with (first
    | (at_mapUpdate; refine wpList_mapUpdate_own _ rfl _ _ _ 80 rfl 9 122 law9 Try.underlying80 (unitElem (H := Unit)) bm m _ rfl hown hm9 _ _ _ rfl rfl hkey _ [] unitElem_mk ?_; intro w1 hown1 hgrow1)
    | go_in)
   have HN1 : Hid (w1.heap[b1]? = some (Obj.cells #[.map none] 82 (0, 0))) := (hgrow1.block _ (Array.getElem?_eq_some_iff.1 HC1.out).1 (fun e => by injection e with e; omega)).trans HC1.out
   have HN2 : Hid (w1.heap[bt]? = some (Obj.cells #[.map (some bm)] 82 (0, 0))) := (hgrow1.block _ (Array.getElem?_eq_some_iff.1 HC2.out).1 (fun e => by injection e with e; omega)).trans HC2.out
   have HB1 : Hid (Below w.heap.size w w1) := HB.out.grown hgrow1 HB.out.size (fun k hk => by injection hk with hk; omega)
   have HO1 := Lib.hid hown1
   clear hown1 hgrow1 hown
   have HALL : Hid (WdInv ls w (.int .i64 ((j + 1 : Nat) : Int)) w1) := ⟨j + 1, m + 1, by omega, by omega, rfl, by rw [← HBE.out.2.1]; exact HST.out ▸ HO1.out, by rw [← HBE.out.1]; exact HN1.out, by rw [← HBE.out.2.2, ← HBE.out.2.1]; exact HN2.out, HB1.out⟩
   go_roundw
   case rel =>
    have q := HALL.out
    push_cast at q
    first
     | exact q
     | exact ⟨_, _, q, rfl, rfl⟩
   case measure => simp [intOf]; omega
  ·obtain rfl : j = ls.length := by omega
   have q1 : decide ((ls.length : Int) < (ls.length : Int)) = false := decide_eq_false (by omega)
   have e1 : wr.cell? ⟨b1, 0, none⟩ = some (.map none) := by rw [Lib.cell_of_heap HC1.out]; rfl
   have f1 : wr.frozen? ⟨b1, 0, none⟩ = false := by simp [World.frozen?, HC1.out]
   rw [List.take_length] at hown
   have HOW := Lib.hid hown
   have hown' : (wr.setCell ⟨b1, 0, none⟩ (.map (some bm))).ownsMap Try.prog 9 (unitElem (H := Unit)) bm m (wset ls) := ownsMap_block hown (by rw [heap_setCell_other _ _ _ _ (by show bm ≠ b1; omega)])
   have HO9 := Lib.hid hown'
   clear hown hown'
   go_wp2_with fail
   have hH := heap_setCell_same wr b1 0 #[.map none] 82 (.map (some bm)) HC1.out
   refine bodyPost_ret (results_cell_row rfl _ _ b1 82 #[.map (some bm)] (0, 0) _ rfl hH Try.underlying82 rfl info82) rfl ?_
   exact ⟨bm, rfl, by omega, ⟨m, HO9.out⟩, HB.out.setCell (p := ⟨b1, 0, none⟩) hq1 _⟩
set_option maxHeartbeats 8000000 in
set_option maxRecDepth 100000 in
/-- What d is in a pattern with these literals. -/
def roleOf (ls : List ByteArray) (d : Dt) : Int := if d.kind ≠ 3 then 0 else if d.dots = true then 1 else if inL ls d.text = true then 2 else if (d.text.toList == [95]) = true then 3 else 4
theorem roleOf_var (ls : List ByteArray) (d : Dt) : (roleOf ls d == 4) = isVar ls d := by
 unfold roleOf isVar
 by_cases h : d.kind = 3
 ·rw [if_neg (by omega)]
  cases hd : d.dots <;> cases hi : inL ls d.text <;> cases hu : (d.text.toList == [95]) <;> simp [h]
 ·rw [if_pos h]; simp [h]
end Go.Proofs.Ytecljchifebljaa
