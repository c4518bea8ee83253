/- Rules: renamed. -/
import Derived.Test.YtecljchifebljaaYAA
import Derived.Test.YtecljchifebljaaYAO
import Derived.Test.YtecljchifebljaaYAM
import Derived.Deep.Cut
import Derived.Test.YtecljchifebljaaYAN
import Derived.Deep.MidRow
set_option linter.unusedVariables false
set_option linter.unusedSimpArgs false
namespace Go.Proofs.Ytecljchifebljaa
open Go.RowKit
def RetRn (d : Dt) (w : World) (e : Ending) (w' : World) : Prop :=
 ∃ k t mv lv p, e = .returned (.agg #[.int .i64 k, .string t, mv, lv, .int .i64 p]) ∧ Dt.At (fun g => w.heap.size ≤ g) w' d.ren #[.int .i64 k, .string t, mv, lv, .int .i64 p] ∧ Below w.heap.size w w'
/-- What stands ahead of the loop. -/
structure St9 (w : World) (ob : Nat) (k : Int) (T : ByteArray) (raw : Array Value) (wx : World) : Prop where
 o : wx.heap[ob]? = some (.cells #[.int .i64 k, .string T, .slice none 0 0, .slice none 0 0, .int .i64 0] 29 (0, 0))
 r : wx.heap[w.heap.size]? = some (.cells raw 29 (0, 0))
 z : wx.heap[w.heap.size + 1]? = some (.cells Z5 29 (0, 0))
 b : Below w.heap.size w wx
 s : ob < wx.heap.size
def cnd9 (k : Int) (t : ByteArray) : Bool := (k == 3) && !(t.toList == ([108, 105, 116] : List UInt8)) && !(t.toList == ([95] : List UInt8)) && !(t.toList == ([46, 46, 46] : List UInt8))
theorem rnT_cnd (k : Int) (t : ByteArray) : rnT k t = if cnd9 k t = true then t ++ sfx else t := by
 have e1 : litB.toList = [108, 105, 116] := by decide +kernel
 have e2 : dT.toList = [46, 46, 46] := by decide +kernel
 unfold rnT cnd9
 rw [e1, e2]
theorem St9.put {w : World} {ob : Nat} {k : Int} {t : ByteArray} {raw : Array Value} {wx : World} (h : St9 w ob k t raw wx) (hb : w.heap.size + 1 < ob) (T : ByteArray) : St9 w ob k T raw (wx.setCell ⟨ob, 1, none⟩ (.string T)) := by
 have s1 := heap_setCell_same wx ob 1 _ 29 (.string T) h.o
 refine ⟨by simpa using s1, ?_, ?_, h.b.setCell (p := ⟨ob, 1, none⟩) (by show _ ≤ ob; omega) _, by simpa [World.setCell] using h.s⟩
 ·rw [heap_setCell_other wx ⟨ob, 1, none⟩ _ _ (by show _ ≠ ob; omega)]; exact h.r
 ·rw [heap_setCell_other wx ⟨ob, 1, none⟩ _ _ (by show _ ≠ ob; omega)]; exact h.z
set_option maxHeartbeats 16000000 in
set_option maxRecDepth 100000 in
theorem renamed_list (N : Nat) (hN : N ≤ 1000000) (ih : ∀ (d : Dt), d.size ≤ N → d.wf → ∀ (S : Nat → Prop) (cs : Array Value) (w : World), Dt.At S w d cs → Calls Try.prog 38 #[.agg cs] w (RetRn d w))
  (k : Int) (t : ByteArray) (ms : List Int) (l : List Dt) (q : Int) (hsz : Dt.sizes l ≤ N) (hts : t.size ≤ 1000000) (hwl : wfs l) (mv : Value) (lo : Option Addr) (lc : Nat) (S : Nat → Prop) (w : World) (hM : MAt S w mv ms) (hL : LAt S w (.slice lo l.length lc) l) :
  Calls Try.prog 38 #[.agg #[.int .i64 k, .string t, mv, .slice lo l.length lc, .int .i64 q]] w (RetRn (.mk k t ms l q) w) := by
 have hm1 := hM.one
 obtain ⟨mo, mc, hmv⟩ := hM.form
 have IH := Lib.hid ih
 have HL := Lib.hid hL
 have HZ := Lib.hid hsz
 have HWF := Lib.hid (And.intro hts hwl)
 clear ih hL hsz hM hmv mo mc hwl
 obtain ⟨T, hT⟩ : ∃ T, T = rnT k t := ⟨_, rfl⟩
 have HT := Lib.hid hT
 clear hT
 go_enter Try.func38, Try.ntmps38
 go_upto_region 1 with fail
 obtain ⟨W1, hW1⟩ : ∃ W1, W1 = (w.alloc (.cells #[.int .i64 k, .string t, mv, .slice lo l.length lc, .int .i64 q] 29)).alloc (.cells Z5 29) := ⟨_, rfl⟩
 have hs1 : W1.heap.size = w.heap.size + 1 + 1 := by rw [hW1]; simp
 have B1 : Below w.heap.size w W1 := by rw [hW1]; exact ((Below.refl _ _).alloc (Nat.le_refl _) _).alloc (by simp) _
 have g0 : W1.heap[w.heap.size]? = some (.cells #[.int .i64 k, .string t, mv, .slice lo l.length lc, .int .i64 q] 29 (0, 0)) := by rw [hW1]; exact (Lib.alloc_old _ _ _ (by simp)).trans (alloc_at w _)
 have g1 : W1.heap[w.heap.size + 1]? = some (.cells Z5 29 (0, 0)) := by rw [hW1]; exact second_at w _ _
 change Code.wp Try.prog _ _ _ ((w.alloc (.cells #[.int .i64 k, .string t, mv, .slice lo l.length lc, .int .i64 q] 29)).alloc (.cells Z5 29))
 rw [← hW1]
 have c0 : W1.cell? ⟨w.heap.size, 0, none⟩ = some (.int .i64 k) := by rw [Lib.cell_of_heap g0]; rfl
 have c1 : W1.cell? ⟨w.heap.size, 1, none⟩ = some (.string t) := by rw [Lib.cell_of_heap g0]; rfl
 have hb4 : Below W1.heap.size W1 (W1.alloc (.cells #[.int .i64 k, .string t, .slice none 0 0, .slice none 0 0, .int .i64 0] 29)) := (Below.refl _ _).alloc (Nat.le_refl _) _
 have HS4 : Hid (St9 w W1.heap.size k t #[.int .i64 k, .string t, mv, .slice lo l.length lc, .int .i64 q] (W1.alloc (.cells #[.int .i64 k, .string t, .slice none 0 0, .slice none 0 0, .int .i64 0] 29))) :=
  ⟨alloc_at W1 _, by rw [hb4.block _ (by omega)]; exact g0, by rw [hb4.block _ (by omega)]; exact g1, B1.trans (hb4.mono (by omega)), by simp⟩
 have HBW : Hid (w.heap.size + 1 < W1.heap.size) := by show _ < _; omega
 clear hW1 hs1 B1 g0 g1 hb4
 go_upto_region 2 with fail
 generalize W1.alloc (.cells #[.int .i64 k, .string t, .slice none 0 0, .slice none 0 0, .int .i64 0] 29) = W4 at HS4 ⊢
 clear c0 c1
 generalize W1.heap.size = ob at HS4 HBW ⊢
 clear W1
 have c0 : W4.cell? ⟨w.heap.size, 0, none⟩ = some (.int .i64 k) := by rw [Lib.cell_of_heap HS4.out.r]; rfl
 have c1 : W4.cell? ⟨w.heap.size, 1, none⟩ = some (.string t) := by rw [Lib.cell_of_heap HS4.out.r]; rfl
 have c2 : W4.cell? ⟨ob, 1, none⟩ = some (.string t) := by rw [Lib.cell_of_heap HS4.out.o]; rfl
 have f2 : W4.frozen? ⟨ob, 1, none⟩ = false := frozen_of_row W4 ob 1 _ 29 HS4.out.o
 obtain ⟨cb, hcb⟩ : ∃ cb, cb = cnd9 k t := ⟨_, rfl⟩
 have HCB := Lib.hid hcb
 go_cut [27] from 10 (fun s27 wx => s27 = .bool cb ∧ W4 = wx)
 case first =>
  by_cases hk : k = 3
  ·have q1 : (k == 3) = true := by simpa using hk
   cases h2 : (t.toList == ([108, 105, 116] : List UInt8)) with
   | true =>
    go_wp2_with fail
    go_meet
    case rel => exact ⟨by rw [HCB.out]; unfold cnd9; rw [q1, h2]; rfl, rfl⟩
   | false =>
    cases h3 : (t.toList == ([95] : List UInt8)) with
    | true =>
     go_wp2_with fail
     go_meet
     case rel => exact ⟨by rw [HCB.out]; unfold cnd9; rw [q1, h2, h3]; rfl, rfl⟩
    | false =>
     cases h4 : (t.toList == ([46, 46, 46] : List UInt8)) with
     | true =>
      go_wp2_with fail
      go_meet
      case rel => exact ⟨by rw [HCB.out]; unfold cnd9; rw [q1, h2, h3, h4]; rfl, rfl⟩
     | false =>
      go_wp2_with fail
      go_meet
      case rel => exact ⟨by rw [HCB.out]; unfold cnd9; rw [q1, h2, h3, h4]; rfl, rfl⟩
  ·have q1 : (k == 3) = false := by simpa using hk
   go_wp2_with fail
   go_meet
   case rel => exact ⟨by rw [HCB.out]; unfold cnd9; rw [q1]; rfl, rfl⟩
 case rest =>
 obtain ⟨rfl, rfl⟩ := hcut
 clear hcb
 go_upto_if 27 with fail
 go_cut [] from 5 (fun wx => St9 w ob k T #[.int .i64 k, .string t, mv, .slice lo l.length lc, .int .i64 q] wx)
 case first =>
  cases cb with
  | true =>
   have HT2 : Hid (T = t ++ ⟨#[45, 122]⟩) := by show _ = _; rw [HT.out, rnT_cnd, ← HCB.out, if_pos rfl]; rfl
   go_wp2_with fail
   go_meet
   case rel => rw [HT2.out]; exact HS4.out.put HBW.out _
  | false =>
   have HT2 : Hid (T = t) := by show _ = _; rw [HT.out, rnT_cnd, ← HCB.out, if_neg (by decide)]
   go_wp2_with fail
   go_meet
   case rel => rw [HT2.out]; exact HS4.out
 case rest =>
  have hst := hcut
  have HOBH := HBW
  have HOB : Hid (w.heap.size + 1 < ob) := HBW.out
  obtain ⟨wr, hwr⟩ : ∃ wr, wr = wc := ⟨_, rfl⟩
  rw [← hwr] at hst ⊢
  have O5 := Lib.hid hst.o
  have R5 := Lib.hid hst.r
  have Z5H := Lib.hid hst.z
  have U5 := Lib.hid hst.b
  have S5 := Lib.hid hst.s
  clear hst hcut hwr c0 c1 c2 f2 HS4
  go_wp2_with fail
  obtain ⟨W5, hW5⟩ : ∃ W5, W5 = wr := ⟨_, rfl⟩
  rw [← hW5] at O5 R5 Z5H U5 S5 ⊢
  clear hW5 wr
  go_loopw [4] (fun iv wr => LInv3 rens l ob k T (.slice none 0 0) 0 W5 iv wr) (fun iv _ => l.length - (intOf iv).toNat)
  case atStart => exact ⟨0, .slice none 0 0, Nat.zero_le _, rfl, O5.out, (by rw [List.take_zero, rens]; exact OwnD.nil _ _), Hole.refl _ _ _ _⟩
  case round =>
   obtain ⟨j, v2, hj, rfl, ho, hown, hh⟩ := hrel
   have hll := length_sizes l
   have hl1 : l.length ≤ 1000000 := by have := HZ.out; omega
   have hsz5 := S5.out
   have hob := HOB.out
   have r2 : wr.heap[w.heap.size]? = some (.cells #[.int .i64 k, .string t, mv, .slice lo l.length lc, .int .i64 q] 29 (0, 0)) := by rw [hh.block _ (by omega) (by omega) (by omega)]; exact R5.out
   have z2 : wr.heap[w.heap.size + 1]? = some (.cells Z5 29 (0, 0)) := by rw [hh.block _ (by omega) (by omega) (by omega)]; exact Z5H.out
   have cr : wr.cell? ⟨w.heap.size, 3, none⟩ = some (.slice lo l.length lc) := by rw [Lib.cell_of_heap r2]; rfl
   have hbw : Below w.heap.size w wr := by
    have h := hh.to (B' := w.heap.size) (by omega) (by omega)
    exact U5.out.trans ⟨h.os, h.tape, h.output, h.size, fun k hk => h.block k hk (by omega)⟩
   have HO := Lib.hid ho
   have OW := Lib.hid hown
   have HH := Lib.hid hh
   have R2 := Lib.hid r2
   have Z2 := Lib.hid z2
   have CR := Lib.hid cr
   have BW := Lib.hid hbw
   clear ho hown hh r2 z2 hbw hll
   by_cases hlt : j < l.length
   ·have q1 : decide ((j : Int) < (l.length : Int)) = true := decide_eq_true (by omega)
    obtain ⟨b, o, k', t', mv', lv', p', rfl, hS, ⟨bc, bfz, hbh⟩, hat, e0, e1, e2, e3, e4, o1, o2⟩ := HL.out.get j hlt
    have hbl : b < w.heap.size := (Array.getElem?_eq_some_iff.1 hbh).1
    have hsj := size_get l j hlt
    have E0 := Lib.hid e0
    have E1 := Lib.hid e1
    have E2 := Lib.hid e2
    have E3 := Lib.hid e3
    have E4 := Lib.hid e4
    have HAT := Lib.hid hat
    clear e0 e1 e2 e3 e4 hat hbh hS
    go_upto_region 7 with fail
    clear cr
    obtain ⟨WD, hWD⟩ : ∃ WD, WD = wr.drew := ⟨_, rfl⟩
    have bd : Below wr.heap.size wr WD := by rw [hWD]; exact (Below.refl _ _).drew
    have hsd : WD.heap.size = wr.heap.size := by rw [hWD]; rfl
    have BD := Lib.hid bd
    have SD := Lib.hid hsd
    have hso : ob < wr.heap.size := by have := HH.out.size; omega
    have CO' := Lib.hid (show WD.cell? ⟨ob, 3, none⟩ = some v2 by rw [BD.out.cell (p := ⟨ob, 3, none⟩) (by show ob < _; omega), Lib.cell_of_heap HO.out]; rfl)
    have bwd : Below w.heap.size w WD := BW.out.trans (bd.mono BW.out.size)
    have HX := Lib.hid (IH.out l[j] (by have := HZ.out; omega) (wfs_get HWF.out.2 j hlt) _ #[.int .i64 k', .string t', mv', lv', .int .i64 p'] WD (Dt.At.keeps (Keeps.of_below bwd) _ _ HAT.out))
    refine wp_region_noPanic ?_
    refine wp_region_held_drew (S := But W5.heap.size ob wr) (by kernel_rfl) ((But.refl _ _ _).drew) (fun hHeld => ?_)
    rw [← hWD] at hHeld ⊢
    have hw5 := U5.out.size
    clear bd hWD hsd bwd
    refine qts [0, 2, 3, 4, 5] hHeld ?_
    (refine qtc (v := Value.pointer (some ⟨ob, 3, none⟩)) rfl rfl (fun w' hw' => ?_) ?_; (focus (go_simp)); simp only [zt,zs,zz,Act.put,zi,zy,zx])
    (refine qtc (v := Value.pointer (some ⟨w.heap.size, 3, none⟩)) rfl rfl (fun w' hw' => ?_) ?_; (focus (go_simp)); simp only [zt,zs,zz,Act.put,zi,zy,zx])
    (refine qtc (v := Value.slice (some ⟨b, o, none⟩) l.length lc) rfl rfl (fun w' hw' => ?_) ?_; (focus (have c := (hw'.cell (p := ⟨w.heap.size, 3, none⟩) (by show w.heap.size < _; omega) (by show w.heap.size ≠ _; omega)).trans CR.out; go_simp)); simp only [zt,zs,zz,Act.put,zi,zy,zx])
    (refine qtc (v := Value.int .i64 j) rfl rfl (fun w' hw' => ?_) ?_; (focus (go_simp)); simp only [zt,zs,zz,Act.put,zi,zy,zx])
    (refine qtc (v := Value.pointer (some ⟨b, o + j * 5, none⟩)) rfl rfl (fun w' hw' => ?_) ?_; (focus (go_simp)); simp only [zt,zs,zz,Act.put,zi,zy,zx])
    refine qtn ?_
    simp only [zt,zs,zz,Act.put,zi,zy,zx,qzl,qzn,qza,Nat.reduceAdd,Nat.reduceSub]
    refine wpAnyH_take (i := 6) rfl (by kernel_rfl) (by kernel_rfl) (by kernel_rfl) (fun _ _ _ h => h) (yieldsIf_load_mid (by rfl) _ _ rfl b (o + j * 5) rfl [.int .i64 k', .string t', mv', lv', .int .i64 p'] _ (fun w' hw' => range5 (fun a ha hb => (hw'.cell (by omega) (by rw [ha]; omega)).trans (BW.out.cell (by omega))) hbl E0.out E1.out E2.out E3.out E4.out) Try.underlying29 rfl info40) hHeld ?_
    simp only [zt,zs,zz,Act.put,zi,zy,zx]
    refine wpAnyH_ready (rs := [1, 7]) (by kernel_rfl) (by simp) ?_
    refine (AllReadyH.cons rfl (fun K hK => ?_) (AllReadyH.cons rfl (fun K hK => ?_) AllReadyH.nil))
    ·skip
     have c45 := CO'.out
     go_simp
     refine hK.out _ _ hHeld (fun hHeld => ?_)
     clear hK K c45
     try simp only [zt,zs,zz,Act.put,zi,zy,zx]
     refine wpAnyH_ready (rs := [7]) (by kernel_rfl) (by simp) ?_
     refine (AllReadyH.cons rfl (fun K hK => ?_) AllReadyH.nil)
     go_simp
     refine HX.out.mono ?_
     rintro e w7 ⟨k5, t5, mv5, lv5, p5, rfl, hat, hb⟩
     have o3 := (At_one hat).1
     have o4 := (At_one hat).2
     obtain ⟨xs, hown8, hz8, hS7, hS8, c7, c8, hnx⟩ := part_more3 (fs := rens) (f := Dt.ren) hlt hl1 hsz5 (by rw [rens_len, List.length_take]; omega) (by rw [List.take_succ_eq_append_getElem hlt, rens_map, rens_map, List.map_append]; rfl) HO.out OW.out HH.out BD.out SD.out hat hb rfl
     have HN := Lib.hid hnx
     have HO8 := Lib.hid hown8
     have HS8 := Lib.hid hS8
     have C7 := Lib.hid c7
     have C8 := Lib.hid c8
     refine hK.out _ _ hS7 (fun hHeld => ?_)
     clear hK K hat hb hown8 hnx hS7 hS8 c7 c8
     try simp only [zt,zs,zz,Act.put,zi,zy,zx]
     refine wpAnyH_ready (rs := [8]) (by kernel_rfl) (by simp) ?_
     refine (AllReadyH.cons rfl (fun K hK => ?_) AllReadyH.nil)
     go_simp
     refine hK.out _ _ HS8.out (fun hHeld => ?_)
     clear hK K
     try simp only [zt,zs,zz,Act.put,zi,zy,zx]
     refine wpAnyH_ready (rs := [9]) (by kernel_rfl) (by simp) ?_
     refine (AllReadyH.cons rfl (fun K hK => ?_) AllReadyH.nil)
     rw [if_pos (by rfl)]
     refine wp_app (Operand.tmp 40) (Operand.tmp 47) rfl W5.heap.size v2 j xs rfl HO8.out w7.heap.size 1 rfl [.int .i64 k5, .string t5, mv5, lv5, .int .i64 p5] rfl (fun i u hu => ?_) (by simp; exact ⟨rfl, rfl, o3, o4, rfl⟩) (by omega) hz8 ?_
     ·rw [Lib.cell_of_heap (alloc_at w7 (.cells #[.int .i64 k5, .string t5, mv5, lv5, .int .i64 p5] 29))]; simpa using hu
     intro v' w9 hown9 hg9 hv9
     obtain ⟨so, sn, sc, rfl⟩ := own_form hown9
     obtain ⟨hS9, cc, cf, hS10, hM⟩ := HN.out _ w9 hown9 hg9 hv9
     have HM := Lib.hid hM
     have HS10 := Lib.hid hS10
     have CC := Lib.hid cc
     have CF := Lib.hid cf
     refine hK.out _ _ hS9 (fun hHeld => ?_)
     clear hK K hown9 hg9 hv9 hS10 hM HN HO8 hS9 cc cf
     try simp only [zt,zs,zz,Act.put,zi,zy,zx]
     refine qtk (i := 10) (v := Value.pointer (some ⟨ob, 3, none⟩)) rfl rfl (fun w' hw' => ?_) hHeld ?_
     ·go_simp
     simp only [zt,zs,zz,Act.put,zi,zy,zx]
     refine wpAnyH_ready (rs := [11]) (by kernel_rfl) (by simp) ?_
     refine (AllReadyH.cons rfl (fun K hK => ?_) AllReadyH.nil)
     have cc := CC.out
     have cf := CF.out
     go_simp
     refine hK.out _ _ HS10.out (fun hHeld => ?_)
     clear hK K cc cf
     try simp only [zt,zs,zz,Act.put,zi,zy,zx]
     refine wpAnyH_done (by kernel_rfl) ?_ _
     refine NoPanic.normal ?_
     clear hHeld
     go_wp2_with fail
     go_roundw
     case rel => exact HM.out
     case measure => simp [intOf]; omega
    ·skip
     go_simp
     refine HX.out.mono ?_
     rintro e w7 ⟨k5, t5, mv5, lv5, p5, rfl, hat, hb⟩
     have o3 := (At_one hat).1
     have o4 := (At_one hat).2
     obtain ⟨xs, hown8, hz8, hS7, hS8, c7, c8, hnx⟩ := part_more3 (fs := rens) (f := Dt.ren) hlt hl1 hsz5 (by rw [rens_len, List.length_take]; omega) (by rw [List.take_succ_eq_append_getElem hlt, rens_map, rens_map, List.map_append]; rfl) HO.out OW.out HH.out BD.out SD.out hat hb rfl
     have HN := Lib.hid hnx
     have HO8 := Lib.hid hown8
     have HS8 := Lib.hid hS8
     have C7 := Lib.hid c7
     have C8 := Lib.hid c8
     refine hK.out _ _ hS7 (fun hHeld => ?_)
     clear hK K hat hb hown8 hnx hS7 hS8 c7 c8
     try simp only [zt,zs,zz,Act.put,zi,zy,zx]
     refine wpAnyH_ready (rs := [1, 8]) (by kernel_rfl) (by simp) ?_
     refine (AllReadyH.cons rfl (fun K hK => ?_) (AllReadyH.cons rfl (fun K hK => ?_) AllReadyH.nil))
     ·skip
      have c45 := C7.out
      go_simp
      refine hK.out _ _ hHeld (fun hHeld => ?_)
      clear hK K c45
      try simp only [zt,zs,zz,Act.put,zi,zy,zx]
      refine wpAnyH_ready (rs := [8]) (by kernel_rfl) (by simp) ?_
      refine (AllReadyH.cons rfl (fun K hK => ?_) AllReadyH.nil)
      go_simp
      refine hK.out _ _ HS8.out (fun hHeld => ?_)
      clear hK K
      try simp only [zt,zs,zz,Act.put,zi,zy,zx]
      refine wpAnyH_ready (rs := [9]) (by kernel_rfl) (by simp) ?_
      refine (AllReadyH.cons rfl (fun K hK => ?_) AllReadyH.nil)
      rw [if_pos (by rfl)]
      refine wp_app (Operand.tmp 40) (Operand.tmp 47) rfl W5.heap.size v2 j xs rfl HO8.out w7.heap.size 1 rfl [.int .i64 k5, .string t5, mv5, lv5, .int .i64 p5] rfl (fun i u hu => ?_) (by simp; exact ⟨rfl, rfl, o3, o4, rfl⟩) (by omega) hz8 ?_
      ·rw [Lib.cell_of_heap (alloc_at w7 (.cells #[.int .i64 k5, .string t5, mv5, lv5, .int .i64 p5] 29))]; simpa using hu
      intro v' w9 hown9 hg9 hv9
      obtain ⟨so, sn, sc, rfl⟩ := own_form hown9
      obtain ⟨hS9, cc, cf, hS10, hM⟩ := HN.out _ w9 hown9 hg9 hv9
      have HM := Lib.hid hM
      have HS10 := Lib.hid hS10
      have CC := Lib.hid cc
      have CF := Lib.hid cf
      refine hK.out _ _ hS9 (fun hHeld => ?_)
      clear hK K hown9 hg9 hv9 hS10 hM HN HO8 hS9 cc cf
      try simp only [zt,zs,zz,Act.put,zi,zy,zx]
      refine qtk (i := 10) (v := Value.pointer (some ⟨ob, 3, none⟩)) rfl rfl (fun w' hw' => ?_) hHeld ?_
      ·go_simp
      simp only [zt,zs,zz,Act.put,zi,zy,zx]
      refine wpAnyH_ready (rs := [11]) (by kernel_rfl) (by simp) ?_
      refine (AllReadyH.cons rfl (fun K hK => ?_) AllReadyH.nil)
      have cc := CC.out
      have cf := CF.out
      go_simp
      refine hK.out _ _ HS10.out (fun hHeld => ?_)
      clear hK K cc cf
      try simp only [zt,zs,zz,Act.put,zi,zy,zx]
      refine wpAnyH_done (by kernel_rfl) ?_ _
      refine NoPanic.normal ?_
      clear hHeld
      go_wp2_with fail
      go_roundw
      case rel => exact HM.out
      case measure => simp [intOf]; omega
     ·skip
      go_simp
      refine hK.out _ _ HS8.out (fun hHeld => ?_)
      clear hK K
      try simp only [zt,zs,zz,Act.put,zi,zy,zx]
      refine wpAnyH_ready (rs := [1]) (by kernel_rfl) (by simp) ?_
      refine (AllReadyH.cons rfl (fun K hK => ?_) AllReadyH.nil)
      have c45 := C8.out
      go_simp
      refine hK.out _ _ hHeld (fun hHeld => ?_)
      clear hK K c45
      try simp only [zt,zs,zz,Act.put,zi,zy,zx]
      refine wpAnyH_ready (rs := [9]) (by kernel_rfl) (by simp) ?_
      refine (AllReadyH.cons rfl (fun K hK => ?_) AllReadyH.nil)
      rw [if_pos (by rfl)]
      refine wp_app (Operand.tmp 40) (Operand.tmp 47) rfl W5.heap.size v2 j xs rfl HO8.out w7.heap.size 1 rfl [.int .i64 k5, .string t5, mv5, lv5, .int .i64 p5] rfl (fun i u hu => ?_) (by simp; exact ⟨rfl, rfl, o3, o4, rfl⟩) (by omega) hz8 ?_
      ·rw [Lib.cell_of_heap (alloc_at w7 (.cells #[.int .i64 k5, .string t5, mv5, lv5, .int .i64 p5] 29))]; simpa using hu
      intro v' w9 hown9 hg9 hv9
      obtain ⟨so, sn, sc, rfl⟩ := own_form hown9
      obtain ⟨hS9, cc, cf, hS10, hM⟩ := HN.out _ w9 hown9 hg9 hv9
      have HM := Lib.hid hM
      have HS10 := Lib.hid hS10
      have CC := Lib.hid cc
      have CF := Lib.hid cf
      refine hK.out _ _ hS9 (fun hHeld => ?_)
      clear hK K hown9 hg9 hv9 hS10 hM HN HO8 hS9 cc cf
      try simp only [zt,zs,zz,Act.put,zi,zy,zx]
      refine qtk (i := 10) (v := Value.pointer (some ⟨ob, 3, none⟩)) rfl rfl (fun w' hw' => ?_) hHeld ?_
      ·go_simp
      simp only [zt,zs,zz,Act.put,zi,zy,zx]
      refine wpAnyH_ready (rs := [11]) (by kernel_rfl) (by simp) ?_
      refine (AllReadyH.cons rfl (fun K hK => ?_) AllReadyH.nil)
      have cc := CC.out
      have cf := CF.out
      go_simp
      refine hK.out _ _ HS10.out (fun hHeld => ?_)
      clear hK K cc cf
      try simp only [zt,zs,zz,Act.put,zi,zy,zx]
      refine wpAnyH_done (by kernel_rfl) ?_ _
      refine NoPanic.normal ?_
      clear hHeld
      go_wp2_with fail
      go_roundw
      case rel => exact HM.out
      case measure => simp [intOf]; omega
   ·obtain rfl : j = l.length := by omega
    have q1 : decide ((l.length : Int) < (l.length : Int)) = false := decide_eq_false (by omega)
    have hO' := OW.out
    rw [List.take_length] at hO'
    have OW' := Lib.hid hO'
    clear hO' OW hlt
    go_wp2_with (first | (refine wpList_load_row rfl 29 _ rfl ob rfl 29 #[.int .i64 k, .string T, .slice none 0 0, v2, .int .i64 0] (0, 0) _ HO.out Try.underlying29 rfl info40 ?_) | (refine wpList_store_row rfl 29 _ _ rfl (w.heap.size + 1) #[.int .i64 k, .string T, .slice none 0 0, v2, .int .i64 0] rfl rfl 29 Z5 Z2.out info40 rfl (by simp [Value.oneCell']; exact OW'.out.at.one) ?_))
    refine bodyPost_ret (results_cell_row rfl _ _ (w.heap.size + 1) 29 #[.int .i64 k, .string T, .slice none 0 0, v2, .int .i64 0] (0, 0) _ rfl (setRow_heap wr _ _ _ 29 _ Z2.out) Try.underlying29 rfl info40) rfl ?_
    have hs2 := HH.out.size
    have kp : ∀ S : Nat → Prop, (∀ x, S x → w.heap.size + 1 < x) → Keeps S wr (wr.setRow (w.heap.size + 1) #[.int .i64 k, .string T, .slice none 0 0, v2, .int .i64 0]) := by
     intro S hS x c T fz hx hg _
     exact ⟨fz, by rw [setRow_other wr _ x _ (by have := hS x hx; omega)]; exact hg⟩
    refine ⟨_, _, _, _, _, rfl, ?_, below_setRow BW.out _ _ (by omega)⟩
    rw [ren_mk, ← HT.out, At_mk]
    refine ⟨_, _, rfl, .inl ⟨rfl, rfl⟩, ?_⟩
    exact LAt.mono (LAt.keeps OW'.out.at (kp _ (fun x hx => by have : W5.heap.size ≤ x := hx; omega))) (fun x hx => by have : W5.heap.size ≤ x := hx; omega)
theorem renamed_any (N : Nat) : N ≤ 1000000 → ∀ (d : Dt), d.size ≤ N → d.wf → ∀ (S : Nat → Prop) (cs : Array Value) (w : World), Dt.At S w d cs → Calls Try.prog 38 #[.agg cs] w (RetRn d w) := by
 induction N with
 | zero => intro _ d hd; cases d; simp [Dt.size] at hd
 | succ N ih =>
  intro hN d hd hw S cs w hat
  obtain ⟨k, t, ms, l, q⟩ := d
  rw [At_mk] at hat
  obtain ⟨mv, lv, rfl, hm, hl⟩ := hat
  obtain ⟨lo, lc, rfl⟩ := hl.form
  exact renamed_list N (by omega) (ih (by omega)) k t ms l q (by simp only [Dt.size] at hd; omega) hw.short hw.parts mv lo lc S w hm hl
end Go.Proofs.Ytecljchifebljaa
namespace Go.Proofs.Ytecljchifebljaa
open Go Go.RowKit
theorem ownsRow_same {w w' : World} {B e size : Nat} {v : Value} {n : Nat} {xs : List Value} (h : w.ownsRow B e size v n xs) (hg : ∀ g, v.ownBlock = some g → w'.heap[g]? = w.heap[g]?) : w'.ownsRow B e size v n xs := by
 refine ⟨h.1, ?_⟩
 rcases h.2 with hn | ⟨g, cap, cur, rfl, hb, hh, r⟩
 ·exact .inl hn
 ·exact .inr ⟨g, cap, cur, rfl, hb, (hg g rfl).trans hh, r⟩
mutual
/-- The twelve cells cs are this binding: its name and its datum lie in S, its rows in blocks of F, each in one of its own. -/
def Bd.OAt (S : Nat → Prop) (w : World) : Bd → (Nat → Prop) → Array Value → Prop
 | .mk n q d l, F, cs => ∃ (m1 l1 m2 l2 lv : Value) (xs : List Value) (c : Nat → Nat), cs = (n.five m1 l1 ++ [Value.int .i64 q] ++ d.five m2 l2 ++ [lv]).toArray ∧ Dt.At S w n (n.five m1 l1).toArray ∧ Dt.At S w d (d.five m2 l2).toArray ∧
   w.ownsRow 0 60 12 lv l.length xs ∧ (∀ g, lv.ownBlock = some g → F g) ∧ Bds.OAt S w l (fun i x => F x ∧ lv.ownBlock ≠ some x ∧ c x = i) xs 0
/-- The cells from the i-th on are these bindings. -/
def Bds.OAt (S : Nat → Prop) (w : World) : List Bd → (Nat → Nat → Prop) → List Value → Nat → Prop
 | [], _, _, _ => True
 | b :: l, Fs, xs, i => (∃ cs : Array Value, cs.size = 12 ∧ (∀ t, t < 12 → xs[12 * i + t]? = cs[t]?) ∧ Bd.OAt S w b (Fs i) cs) ∧ Bds.OAt S w l Fs xs (i + 1)
end
/-- A row of bindings, its own block and those of all rows in it among F; what they name and hold in S. -/
def RowN (S F : Nat → Prop) (w : World) (v : Value) (bs : List Bd) : Prop :=
 ∃ (xs : List Value) (c : Nat → Nat), w.ownsRow 0 60 12 v bs.length xs ∧ (∀ g, v.ownBlock = some g → F g) ∧ Bds.OAt S w bs (fun i x => F x ∧ v.ownBlock ≠ some x ∧ c x = i) xs 0
theorem OAt_mk (S : Nat → Prop) (w : World) (n : Dt) (q : Int) (d : Dt) (l : List Bd) (F : Nat → Prop) (cs : Array Value) :
  Bd.OAt S w (.mk n q d l) F cs ↔ ∃ m1 l1 m2 l2 lv, cs = (n.five m1 l1 ++ [Value.int .i64 q] ++ d.five m2 l2 ++ [lv]).toArray ∧ Dt.At S w n (n.five m1 l1).toArray ∧ Dt.At S w d (d.five m2 l2).toArray ∧ RowN S F w lv l := by
 unfold Bd.OAt RowN
 constructor
 ·rintro ⟨m1, l1, m2, l2, lv, xs, c, h1, h2, h3, h4, h5, h6⟩; exact ⟨m1, l1, m2, l2, lv, h1, h2, h3, xs, c, h4, h5, h6⟩
 ·rintro ⟨m1, l1, m2, l2, lv, h1, h2, h3, xs, c, h4, h5, h6⟩; exact ⟨m1, l1, m2, l2, lv, xs, c, h1, h2, h3, h4, h5, h6⟩
theorem Bds.OAt.get {S : Nat → Prop} {w : World} : ∀ (l : List Bd) (Fs : Nat → Nat → Prop) (xs : List Value) (i : Nat), Bds.OAt S w l Fs xs i → ∀ j (h : j < l.length), ∃ cs : Array Value, cs.size = 12 ∧ (∀ t, t < 12 → xs[12 * (i + j) + t]? = cs[t]?) ∧ Bd.OAt S w l[j] (Fs (i + j)) cs
 | [], _, _, _, _, j, h => absurd h (by simp)
 | b :: l, Fs, xs, i, h, 0, _ => by unfold Bds.OAt at h; exact h.1
 | b :: l, Fs, xs, i, h, j + 1, hj => by
  unfold Bds.OAt at h
  have := Bds.OAt.get l Fs xs (i + 1) h.2 j (by simpa using hj)
  rw [show i + 1 + j = i + (j + 1) by omega] at this
  exact this
theorem Bds.OAt.of_get {S : Nat → Prop} {w : World} : ∀ (l : List Bd) (Fs : Nat → Nat → Prop) (xs : List Value) (i : Nat), (∀ j (h : j < l.length), ∃ cs : Array Value, cs.size = 12 ∧ (∀ t, t < 12 → xs[12 * (i + j) + t]? = cs[t]?) ∧ Bd.OAt S w l[j] (Fs (i + j)) cs) → Bds.OAt S w l Fs xs i
 | [], _, _, _, _ => by unfold Bds.OAt; trivial
 | b :: l, Fs, xs, i, h => by
  unfold Bds.OAt
  refine ⟨h 0 (by simp), Bds.OAt.of_get l Fs xs (i + 1) fun j hj => ?_⟩
  have := h (j + 1) (by simpa using hj)
  rw [show i + (j + 1) = i + 1 + j by omega] at this
  exact this
theorem RowN_iff (S F : Nat → Prop) (w : World) (v : Value) (bs : List Bd) : RowN S F w v bs ↔ ∃ (xs : List Value) (c : Nat → Nat), w.ownsRow 0 60 12 v bs.length xs ∧ (∀ g, v.ownBlock = some g → F g) ∧
  ∀ j (h : j < bs.length), ∃ cs : Array Value, cs.size = 12 ∧ (∀ t, t < 12 → xs[12 * j + t]? = cs[t]?) ∧ Bd.OAt S w bs[j] (fun x => F x ∧ v.ownBlock ≠ some x ∧ c x = j) cs := by
 constructor
 ·rintro ⟨xs, c, h1, h2, h3⟩
  refine ⟨xs, c, h1, h2, fun j hj => ?_⟩
  have := Bds.OAt.get _ _ _ _ h3 j hj
  simpa using this
 ·rintro ⟨xs, c, h1, h2, h3⟩
  exact ⟨xs, c, h1, h2, Bds.OAt.of_get _ _ _ _ fun j hj => by simpa using h3 j hj⟩
mutual
theorem Bd.OAt.mono {S T : Nat → Prop} {w : World} (k : ∀ g, S g → T g) : ∀ (b : Bd) (F G : Nat → Prop) (cs : Array Value), (∀ x, F x → G x) → Bd.OAt S w b F cs → Bd.OAt T w b G cs
 | .mk n q d l, F, G, cs, hF, h => by
  rw [OAt_mk] at h ⊢
  obtain ⟨m1, l1, m2, l2, lv, e, hn, hd, xs, c, h1, h2, h3⟩ := h
  exact ⟨m1, l1, m2, l2, lv, e, hn.mono k, hd.mono k, xs, c, h1, fun g hg => hF g (h2 g hg), Bds.OAt.mono k l _ _ xs 0 (fun i x hx => ⟨hF x hx.1, hx.2⟩) h3⟩
theorem Bds.OAt.mono {S T : Nat → Prop} {w : World} (k : ∀ g, S g → T g) : ∀ (l : List Bd) (F G : Nat → Nat → Prop) (xs : List Value) (i : Nat), (∀ i x, F i x → G i x) → Bds.OAt S w l F xs i → Bds.OAt T w l G xs i
 | [], _, _, _, _, _, _ => by unfold Bds.OAt; trivial
 | b :: l, F, G, xs, i, hF, h => by
  unfold Bds.OAt at h ⊢
  obtain ⟨⟨cs, h1, h2, h3⟩, h4⟩ := h
  exact ⟨⟨cs, h1, h2, Bd.OAt.mono k b _ _ cs (hF i) h3⟩, Bds.OAt.mono k l F G xs (i + 1) hF h4⟩
end
theorem RowN.mono {S T F G : Nat → Prop} {w : World} {v : Value} {bs : List Bd} (h : RowN S F w v bs) (k : ∀ g, S g → T g) (hF : ∀ x, F x → G x) : RowN T G w v bs := by
 obtain ⟨xs, c, h1, h2, h3⟩ := h
 exact ⟨xs, c, h1, fun g hg => hF g (h2 g hg), Bds.OAt.mono k bs _ _ xs 0 (fun i x hx => ⟨hF x hx.1, hx.2⟩) h3⟩
mutual
theorem Bd.OAt.keeps {S : Nat → Prop} {w w' : World} (k : KeepsB S w w') : ∀ (b : Bd) (F : Nat → Prop) (cs : Array Value), (∀ x, F x → w'.heap[x]? = w.heap[x]?) → Bd.OAt S w b F cs → Bd.OAt S w' b F cs
 | .mk n q d l, F, cs, hF, h => by
  rw [OAt_mk] at h ⊢
  obtain ⟨m1, l1, m2, l2, lv, e, hn, hd, xs, c, h1, h2, h3⟩ := h
  exact ⟨m1, l1, m2, l2, lv, e, hn.keeps k.keeps, hd.keeps k.keeps, xs, c, ownsRow_same h1 (fun g hg => hF g (h2 g hg)), h2, Bds.OAt.keeps k l _ xs 0 (fun i x hx => hF x hx.1) h3⟩
theorem Bds.OAt.keeps {S : Nat → Prop} {w w' : World} (k : KeepsB S w w') : ∀ (l : List Bd) (F : Nat → Nat → Prop) (xs : List Value) (i : Nat), (∀ i x, F i x → w'.heap[x]? = w.heap[x]?) → Bds.OAt S w l F xs i → Bds.OAt S w' l F xs i
 | [], _, _, _, _, _ => by unfold Bds.OAt; trivial
 | b :: l, F, xs, i, hF, h => by
  unfold Bds.OAt at h ⊢
  obtain ⟨⟨cs, h1, h2, h3⟩, h4⟩ := h
  exact ⟨⟨cs, h1, h2, Bd.OAt.keeps k b _ cs (hF i) h3⟩, Bds.OAt.keeps k l F xs (i + 1) hF h4⟩
end
theorem RowN.keeps {S F : Nat → Prop} {w w' : World} {v : Value} {bs : List Bd} (h : RowN S F w v bs) (k : KeepsB S w w') (hF : ∀ x, F x → w'.heap[x]? = w.heap[x]?) : RowN S F w' v bs := by
 obtain ⟨xs, c, h1, h2, h3⟩ := h
 exact ⟨xs, c, ownsRow_same h1 (fun g hg => hF g (h2 g hg)), h2, Bds.OAt.keeps k bs _ xs 0 (fun i x hx => hF x hx.1) h3⟩
mutual
theorem Bd.OAt.bound {S : Nat → Prop} {w : World} : ∀ (b : Bd) (F : Nat → Prop) (cs : Array Value), Bd.OAt S w b F cs → Bd.OAt S w b (fun x => F x ∧ x < w.heap.size) cs
 | .mk n q d l, F, cs, h => by
  rw [OAt_mk] at h ⊢
  obtain ⟨m1, l1, m2, l2, lv, e, hn, hd, xs, c, h1, h2, h3⟩ := h
  exact ⟨m1, l1, m2, l2, lv, e, hn, hd, xs, c, h1, fun g hg => ⟨h2 g hg, (h1.lt g hg).2⟩, Bds.OAt.mono (fun _ h => h) l _ _ xs 0 (fun i x hx => ⟨⟨hx.1.1, hx.2⟩, hx.1.2⟩) (Bds.OAt.bound l _ xs 0 h3)⟩
theorem Bds.OAt.bound {S : Nat → Prop} {w : World} : ∀ (l : List Bd) (F : Nat → Nat → Prop) (xs : List Value) (i : Nat), Bds.OAt S w l F xs i → Bds.OAt S w l (fun i x => F i x ∧ x < w.heap.size) xs i
 | [], _, _, _, _ => by unfold Bds.OAt; trivial
 | b :: l, F, xs, i, h => by
  unfold Bds.OAt at h ⊢
  obtain ⟨⟨cs, h1, h2, h3⟩, h4⟩ := h
  exact ⟨⟨cs, h1, h2, Bd.OAt.bound b _ cs h3⟩, Bds.OAt.bound l F xs (i + 1) h4⟩
end
theorem RowN.bound {S F : Nat → Prop} {w : World} {v : Value} {bs : List Bd} (h : RowN S F w v bs) : RowN S (fun x => F x ∧ x < w.heap.size) w v bs := by
 obtain ⟨xs, c, h1, h2, h3⟩ := h
 exact ⟨xs, c, h1, fun g hg => ⟨h2 g hg, (h1.lt g hg).2⟩, Bds.OAt.mono (fun _ h => h) bs _ _ xs 0 (fun i x hx => ⟨⟨hx.1.1, hx.2⟩, hx.1.2⟩) (Bds.OAt.bound bs _ xs 0 h3)⟩
theorem RowN.below {S F : Nat → Prop} {w w' : World} {v : Value} {bs : List Bd} (h : RowN S F w v bs) (hb : Below w.heap.size w w') : RowN S F w' v bs :=
 (h.bound.keeps (KeepsB.of_below hb) (fun x hx => hb.block x hx.2)).mono (fun _ h => h) (fun _ h => h.1)
theorem RowN.nil (S F : Nat → Prop) (w : World) : RowN S F w (.slice none 0 0) [] := ⟨[], fun _ => 0, World.ownsRow_nil _ _ _ _, fun g hg => (by cases hg), by unfold Bds.OAt; trivial⟩
theorem RowN.form {S F : Nat → Prop} {w : World} {v : Value} {bs : List Bd} (h : RowN S F w v bs) : ∃ ao c, v = .slice ao bs.length c := by
 obtain ⟨xs, c, h1, _, _⟩ := h
 rcases h1.2 with ⟨rfl, hz⟩ | ⟨g, cap, cur, rfl, _⟩
 ·exact ⟨none, 0, by rw [hz]⟩
 ·exact ⟨_, _, rfl⟩
theorem RowN.own {S F : Nat → Prop} {w : World} {v : Value} {bs : List Bd} (h : RowN S F w v bs) : ∀ g, v.ownBlock = some g → F g ∧ g < w.heap.size := by
 obtain ⟨xs, c, h1, h2, _⟩ := h
 exact fun g hg => ⟨h2 g hg, (h1.lt g hg).2⟩
open Classical in
/-- Behind an append of one binding: a row one longer. -/
theorem RowN.snoc {S F G : Nat → Prop} {w : World} {v : Value} {bs : List Bd} {b : Bd} {cs : Array Value} (h : RowN S F w v bs) (h5 : cs.size = 12) (hb : Bd.OAt S w b G cs) (hG : ∀ x, G x → ¬ F x) (hS : ∀ x, v.ownBlock = some x → ¬ S x) :
  ∃ xs, w.ownsRow 0 60 12 v bs.length xs ∧ ∀ v' w9, w9.ownsRow 0 60 12 v' (bs.length + 1) (xs ++ cs.toList) → w.grownBy w9 v.ownBlock → (v'.ownBlock = v.ownBlock ∨ v'.ownBlock = some w.heap.size) → RowN S (fun x => F x ∨ G x ∨ v'.ownBlock = some x) w9 v' (bs ++ [b]) := by
 have hbd := Bd.OAt.bound b _ cs hb
 have hrb := h.bound
 rw [RowN_iff] at h hrb
 obtain ⟨xs, c0, h1, h2, _⟩ := h
 refine ⟨xs, h1, fun v' w9 h9 hg hv => ?_⟩
 obtain ⟨xs', c, h1', h2', h3⟩ := hrb
 have hxe : xs' = xs := by
  have e1 := h1.1
  have e2 := h1'.1
  rcases h1.2 with ⟨rfl, hz⟩ | ⟨g, cap, cur, rfl, hbg, hh, _, _, _, ht⟩
  ·rw [hz] at e1 e2
   rw [List.length_eq_zero_iff.1 (by omega : xs.length = 0), List.length_eq_zero_iff.1 (by omega : xs'.length = 0)]
  ·rcases h1'.2 with ⟨e, _⟩ | ⟨g', cap', cur', e, _, hh', _, _, _, ht'⟩
   ·cases e
   ·injection e with e _ _
    injection e with e; injection e with e
    subst e
    rw [hh] at hh'; injection hh' with hh'; injection hh' with hh'
    rw [← ht, ← ht', hh']
 subst hxe
 have hk : KeepsB S w w9 := KeepsB.of_grown hg (fun g hs e => hS g e.symm hs)
 have hl : xs'.length = bs.length * 12 := h1.1
 have hne : ∀ x, x < w.heap.size → v.ownBlock ≠ some x → v'.ownBlock ≠ some x := fun x hx hx2 => by
  rcases hv with e | e
  ·rw [e]; exact hx2
  ·rw [e]; intro e; injection e with e; omega
 rw [RowN_iff]
 refine ⟨_, fun x => if G x then bs.length else c x, by simpa using h9, fun g hg => .inr (.inr hg), fun j hj => ?_⟩
 by_cases hlt : j < bs.length
 ·obtain ⟨d, d1, d2, d3⟩ := h3 j hlt
  refine ⟨d, d1, fun t ht => ?_, ?_⟩
  ·rw [List.getElem?_append_left (by omega)]; exact d2 t ht
  ·rw [List.getElem_append_left hlt]
   have d4 := Bd.OAt.keeps hk _ _ _ (fun x (hx : (F x ∧ x < w.heap.size) ∧ v.ownBlock ≠ some x ∧ c x = j) => hg.block x hx.1.2 (fun e => hx.2.1 e.symm)) d3
   refine Bd.OAt.mono (fun _ h => h) _ _ _ _ ?_ d4
   rintro x ⟨⟨x1, x2⟩, x3, x4⟩
   refine ⟨.inl x1, hne x x2 x3, ?_⟩
   show (if G x then bs.length else c x) = j
   rw [if_neg (fun h => hG x h x1)]; exact x4
 ·have hj' : j = bs.length := by simp at hj; omega
  subst hj'
  refine ⟨cs, h5, fun t ht => ?_, ?_⟩
  ·rw [List.getElem?_append_right (by omega), show 12 * bs.length + t - xs'.length = t by omega]; simp
  ·rw [List.getElem_append_right (by omega)]
   simp only [Nat.sub_self, List.getElem_cons_zero]
   have hgv : ∀ x, G x → v.ownBlock ≠ some x := fun x hx e => hG x hx (h2 x e)
   have d4 := Bd.OAt.keeps hk _ _ _ (fun x (hx : G x ∧ x < w.heap.size) => hg.block x hx.2 (fun e => hgv x hx.1 e.symm)) hbd
   refine Bd.OAt.mono (fun _ h => h) _ _ _ _ ?_ d4
   rintro x ⟨x1, x2⟩
   exact ⟨.inr (.inl x1), hne x x2 (hgv x x1), by show (if G x then bs.length else c x) = bs.length; rw [if_pos x1]⟩
end Go.Proofs.Ytecljchifebljaa
namespace Go.Proofs.Ytecljchifebljaa
open Go Go.RowKit
/-- A row of n bindings, of which E tells; c tells whose a block is. -/
def RowC (F : Nat → Prop) (E : Nat → (Nat → Prop) → Array Value → Prop) (w : World) (v : Value) (n : Nat) (c : Nat → Nat) : Prop :=
 ∃ xs : List Value, w.ownsRow 0 60 12 v n xs ∧ (∀ g, v.ownBlock = some g → F g) ∧ ∀ j, j < n → ∃ cs : Array Value, cs.size = 12 ∧ (∀ t, t < 12 → xs[12 * j + t]? = cs[t]?) ∧ E j (fun x => F x ∧ v.ownBlock ≠ some x ∧ c x = j) cs
theorem RowN_C (S F : Nat → Prop) (w : World) (v : Value) (bs : List Bd) : RowN S F w v bs ↔ ∃ c, RowC F (fun j G cs => ∃ b, bs[j]? = some b ∧ Bd.OAt S w b G cs) w v bs.length c := by
 rw [RowN_iff]
 constructor
 ·rintro ⟨xs, c, h1, h2, h3⟩
  refine ⟨c, xs, h1, h2, fun j hj => ?_⟩
  obtain ⟨cs, k1, k2, k3⟩ := h3 j hj
  exact ⟨cs, k1, k2, bs[j], List.getElem?_eq_getElem hj, k3⟩
 ·rintro ⟨c, xs, h1, h2, h3⟩
  refine ⟨xs, c, h1, h2, fun j hj => ?_⟩
  obtain ⟨cs, k1, k2, b, k3, k4⟩ := h3 j hj
  rw [List.getElem?_eq_getElem hj] at k3
  injection k3 with k3
  exact ⟨cs, k1, k2, k3 ▸ k4⟩
theorem RowC.map {F : Nat → Prop} {E E' : Nat → (Nat → Prop) → Array Value → Prop} {w w' : World} {v : Value} {n : Nat} {c : Nat → Nat} {F' : Nat → Prop} (h : RowC F E w v n c) (hg : ∀ g, v.ownBlock = some g → w'.heap[g]? = w.heap[g]?) (hF : ∀ x, F x → F' x)
  (hE : ∀ j G G' cs, j < n → (∀ x, G x → F x ∧ v.ownBlock ≠ some x ∧ c x = j) → (∀ x, G x → G' x) → E j G cs → E' j G' cs) : RowC F' E' w' v n c := by
 obtain ⟨xs, h1, h2, h3⟩ := h
 refine ⟨xs, ownsRow_same h1 hg, fun g e => hF g (h2 g e), fun j hj => ?_⟩
 obtain ⟨cs, k1, k2, k3⟩ := h3 j hj
 exact ⟨cs, k1, k2, hE j _ _ cs hj (fun x h => h) (fun x h => ⟨hF x h.1, h.2⟩) k3⟩
theorem RowC.get {F : Nat → Prop} {E : Nat → (Nat → Prop) → Array Value → Prop} {w : World} {v : Value} {n : Nat} {c : Nat → Nat} (h : RowC F E w v n c) {i : Nat} (hi : i < n) :
  ∃ g cap cur cs, v = .slice (some ⟨g, 0, none⟩) n cap ∧ F g ∧ w.heap[g]? = some (.cells cur 60 (0, 0)) ∧ n ≤ cap ∧ cur.size = cap * 12 ∧ cs.size = 12 ∧ (∀ t, t < 12 → cur[12 * i + t]? = cs[t]?) ∧ E i (fun x => F x ∧ g ≠ x ∧ c x = i) cs := by
 obtain ⟨xs, h1, h2, h3⟩ := h
 obtain ⟨cs, k1, k2, k3⟩ := h3 i hi
 rcases h1.2 with ⟨_, hz⟩ | ⟨g, cap, cur, rfl, _, hh, hnc, hcm, hcs, ht⟩
 ·omega
 ·refine ⟨g, cap, cur, cs, rfl, h2 g rfl, hh, hnc, hcs, k1, fun t ht' => ?_, ?_⟩
  ·rw [← k2 t ht', ← ht, List.getElem?_take, if_pos (by omega)]; simp
  ·have e : (fun x => F x ∧ (Value.slice (some ⟨g, 0, none⟩) n cap).ownBlock ≠ some x ∧ c x = i) = (fun x => F x ∧ g ≠ x ∧ c x = i) := by
    funext x
    simp [Value.ownBlock]
   rw [← e]; exact k3
open Classical in
/-- The i-th binding is written over, and gets blocks of G more. -/
theorem RowC.put {F F' G : Nat → Prop} {E E' : Nat → (Nat → Prop) → Array Value → Prop} {w w' : World} {g n cap i : Nat} {cur cur' cs' : Array Value} {c : Nat → Nat} (h : RowC F E w (.slice (some ⟨g, 0, none⟩) n cap) n c) (hi : i < n)
  (hg : w.heap[g]? = some (.cells cur 60 (0, 0))) (hg' : w'.heap[g]? = some (.cells cur' 60 (0, 0))) (hs : cur'.size = cur.size) (h5 : cs'.size = 12) (hin : ∀ t, t < 12 → cur'[12 * i + t]? = cs'[t]?) (hout : ∀ t, (t < 12 * i ∨ 12 * i + 12 ≤ t) → cur'[t]? = cur[t]?)
  (hF : ∀ x, F x → F' x) (hG : ∀ x, G x → ¬ F x)
  (hE : ∀ j K K' cs, j < n → j ≠ i → (∀ x, K x → F x ∧ g ≠ x ∧ c x = j) → (∀ x, K x → K' x) → E j K cs → E' j K' cs)
  (hEi : E' i (fun x => F' x ∧ g ≠ x ∧ (if G x then i else c x) = i) cs') : RowC F' E' w' (.slice (some ⟨g, 0, none⟩) n cap) n (fun x => if G x then i else c x) := by
 obtain ⟨xs, h1, h2, h3⟩ := h
 have hown : ∀ x, ((Value.slice (some ⟨g, 0, none⟩) n cap).ownBlock ≠ some x) = (g ≠ x) := fun x => by simp [Value.ownBlock]
 rcases h1.2 with ⟨e, _⟩ | ⟨g1, cap1, cur1, e, hb, hh, hnc, hcm, hcs, ht⟩
 ·cases e
 injection e with e _ e2
 injection e with e; injection e with e
 subst e; subst e2
 rw [hg] at hh
 injection hh with hh; injection hh with hh
 subst hh
 have hxl := h1.1
 have hlt : n * 12 ≤ cap * 12 := Nat.mul_le_mul_right 12 hnc
 refine ⟨cur'.toList.take (n * 12), ⟨by rw [List.length_take, Array.length_toList]; omega, .inr ⟨g, cap, cur', rfl, hb, hg', hnc, hcm, by omega, rfl⟩⟩, fun x e => hF x (h2 x e), fun j hj => ?_⟩
 have hread : ∀ t, t < n * 12 → (cur'.toList.take (n * 12))[t]? = cur'[t]? := fun t h => by rw [List.getElem?_take, if_pos h]; simp
 by_cases hji : j = i
 ·subst hji
  refine ⟨cs', h5, fun t ht' => ?_, ?_⟩
  ·rw [hread _ (by omega)]; exact hin t ht'
  ·simp only [hown]; exact hEi
 ·obtain ⟨cs, k1, k2, k3⟩ := h3 j hj
  refine ⟨cs, k1, fun t ht' => ?_, ?_⟩
  ·rw [hread _ (by omega), hout _ (by omega), ← k2 t ht', ← ht, List.getElem?_take, if_pos (by omega)]; simp
  ·simp only [hown] at k3 ⊢
   refine hE j _ _ cs hj hji (fun x h => h) ?_ k3
   rintro x ⟨x1, x2, x3⟩
   refine ⟨hF x x1, x2, ?_⟩
   rw [if_neg (fun h => hG x h x1)]; exact x3
/-- One cell of a binding is another one. -/
theorem cells12_set {cur cs : Array Value} {i : Nat} {u : Value} (m : Nat) (hm : m < 12) (h5 : cs.size = 12) (hl : 12 * i + 12 ≤ cur.size) (h : ∀ t, t < 12 → cur[12 * i + t]? = cs[t]?) :
  (cur.setIfInBounds (12 * i + m) u).size = cur.size ∧ (cs.setIfInBounds m u).size = 12 ∧ (∀ t, t < 12 → (cur.setIfInBounds (12 * i + m) u)[12 * i + t]? = (cs.setIfInBounds m u)[t]?) ∧ ∀ t, (t < 12 * i ∨ 12 * i + 12 ≤ t) → (cur.setIfInBounds (12 * i + m) u)[t]? = cur[t]? := by
 refine ⟨by simp, by simpa using h5, fun t ht => ?_, fun t ht => ?_⟩
 ·rw [Array.getElem?_setIfInBounds, Array.getElem?_setIfInBounds]
  by_cases e : m = t
  ·subst e; rw [if_pos rfl, if_pos rfl, if_pos (by omega), if_pos (by omega)]
  ·rw [if_neg (by omega), if_neg e]; exact h t ht
 ·rw [Array.getElem?_setIfInBounds, if_neg (by omega)]
end Go.Proofs.Ytecljchifebljaa
namespace Go.Proofs.Ytecljchifebljaa
open Go Go.RowKit
theorem RowN.get {S F : Nat → Prop} {w : World} {ao : Option Addr} {n c : Nat} {bs : List Bd} (h : RowN S F w (.slice ao n c) bs) (i : Nat) (hi : i < bs.length) :
  ∃ (g : Nat) (m2 l2 : Value) (lo : Option Addr) (lc : Nat), ao = some ⟨g, 0, none⟩ ∧ bs.length ≤ c ∧ (∃ cur, w.heap[g]? = some (.cells cur 60 (0, 0))) ∧ w.cell? ⟨g, i * 12 + 1, none⟩ = some (.string bs[i].name.text) ∧ w.cell? ⟨g, i * 12 + 5, none⟩ = some (.int .i64 bs[i].deep) ∧
   (w.cell? ⟨g, i * 12 + 6, none⟩ = some (.int .i64 bs[i].dat.kind) ∧ w.cell? ⟨g, i * 12 + 7, none⟩ = some (.string bs[i].dat.text) ∧ w.cell? ⟨g, i * 12 + 8, none⟩ = some m2 ∧ w.cell? ⟨g, i * 12 + 9, none⟩ = some l2 ∧ w.cell? ⟨g, i * 12 + 10, none⟩ = some (.int .i64 bs[i].dat.place)) ∧
   w.cell? ⟨g, i * 12 + 11, none⟩ = some (.slice lo bs[i].rows.length lc) ∧ Dt.At S w bs[i].dat #[.int .i64 bs[i].dat.kind, .string bs[i].dat.text, m2, l2, .int .i64 bs[i].dat.place] := by
 rw [RowN_iff] at h
 obtain ⟨xs, cc, hown, hF, hget⟩ := h
 obtain ⟨cs, h12, hxs, hat⟩ := hget i hi
 generalize hb : bs[i] = b at hat ⊢
 obtain ⟨nm, q, d, l⟩ := b
 rw [OAt_mk] at hat
 obtain ⟨m1, l1, m2, l2, lv, rfl, hn, hd, hl⟩ := hat
 obtain ⟨lo, lc, rfl⟩ := hl.form
 rcases hown.2 with ⟨e, hz⟩ | ⟨g, cap, cur, e, _, hh, hnc, hcm, hcs, ht⟩
 ·omega
 ·injection e with e1 e2 e3
  subst e1 e3
  have key : ∀ t v, t < 12 → (nm.five m1 l1 ++ [Value.int .i64 q] ++ d.five m2 l2 ++ [.slice lo l.length lc])[t]? = some v → w.cell? ⟨g, i * 12 + t, none⟩ = some v := by
   intro t v ht12 hv
   rw [cell_of_row _ _ _ _ _ _ hh, ← Array.getElem?_toList]
   have h1 := hxs t ht12
   rw [List.getElem?_toArray, hv, ← ht, List.getElem?_take] at h1
   split at h1
   ·rw [← h1]; congr 1; omega
   ·cases h1
  exact ⟨g, m2, l2, lo, lc, rfl, hnc, ⟨cur, hh⟩, key 1 _ (by decide) rfl, key 5 _ (by decide) rfl, ⟨key 6 _ (by decide) rfl, key 7 _ (by decide) rfl, key 8 _ (by decide) rfl, key 9 _ (by decide) rfl, key 10 _ (by decide) rfl⟩, key 11 _ (by decide) rfl, hd⟩
end Go.Proofs.Ytecljchifebljaa
namespace Go.Proofs.Ytecljchifebljaa
open Go Go.RowKit
/-- A row of bindings that the call owns: its blocks stand from B on, what it names and holds below A. -/
def OwnR (A B : Nat) (w : World) (v : Value) (bs : List Bd) : Prop := RowN (fun g => g < A) (fun x => B ≤ x) w v bs
theorem OwnR.form {A B : Nat} {w : World} {v : Value} {bs : List Bd} (h : OwnR A B w v bs) : ∃ ao c, v = .slice ao bs.length c := RowN.form h
theorem OwnR.low {A B : Nat} {w : World} {v : Value} {bs : List Bd} (h : OwnR A B w v bs) : ∀ x, v.ownBlock = some x → B ≤ x ∧ x < w.heap.size := RowN.own h
theorem OwnR.below {A B : Nat} {w w' : World} {v : Value} {bs : List Bd} (h : OwnR A B w v bs) (hb : Below w.heap.size w w') : OwnR A B w' v bs := RowN.below h hb
theorem OwnR.mono {A B A' B' : Nat} {w : World} {v : Value} {bs : List Bd} (h : OwnR A B w v bs) (hA : A ≤ A') (hB : B' ≤ B) : OwnR A' B' w v bs := RowN.mono h (fun g (h : g < A) => Nat.lt_of_lt_of_le h hA) (fun x (h : B ≤ x) => Nat.le_trans hB h)
theorem OwnR.nil (A B : Nat) (w : World) : OwnR A B w (.slice none 0 0) [] := RowN.nil _ _ _
/-- Behind an append of a binding without rows. -/
theorem OwnR.snoc {A B : Nat} {w : World} {v : Value} {bs : List Bd} {b : Bd} {cs : Array Value} (h : OwnR A B w v bs) (hAB : A ≤ B) (hB : B ≤ w.heap.size) (h5 : cs.size = 12) (hb : Bd.OAt (fun g => g < A) w b (fun _ => False) cs) :
  ∃ xs, w.ownsRow 0 60 12 v bs.length xs ∧ ∀ v' w9, w9.ownsRow 0 60 12 v' (bs.length + 1) (xs ++ cs.toList) → w.grownBy w9 v.ownBlock → (v'.ownBlock = v.ownBlock ∨ v'.ownBlock = some w.heap.size) → OwnR A B w9 v' (bs ++ [b]) := by
 obtain ⟨xs, h1, h2⟩ := RowN.snoc h h5 hb (fun _ h => h.elim) (fun x hx (hlt : x < A) => by have := (h.low x hx).1; omega)
 refine ⟨xs, h1, fun v' w9 h9 hg hv => (h2 v' w9 h9 hg hv).mono (fun _ h => h) ?_⟩
 rintro x (hx | hx | hx)
 ·exact hx
 ·exact hx.elim
 ·rcases hv with e | e
  ·exact (h.low x (e ▸ hx)).1
  ·rw [e] at hx; injection hx with hx; show B ≤ x; omega
theorem OwnR.ne_block {A B x : Nat} {w : World} {v : Value} {bs : List Bd} (h : OwnR A B w v bs) {c : Array Value} {T : TypeId} {fz : Nat × Nat} (hx : w.heap[x]? = some (.cells c T fz)) (hT : T ≠ 60) : v.ownBlock = none ∨ v.ownBlock ≠ some x := by
 obtain ⟨xs, _, ho, _⟩ := h
 rcases ho.2 with ⟨e1, _⟩ | ⟨g, cap, cur, e1, _, e3, _⟩
 ·rw [e1]; exact .inl rfl
 ·rw [e1]
  refine .inr fun e => ?_
  simp only [Value.ownBlock, Option.some.injEq] at e
  subst e
  rw [e3] at hx
  injection hx with hx
  injection hx with _ hx _
  exact hT hx.symm
theorem mRf_mk (ls : List ByteArray) (n : Nat) (k : Int) (t : ByteArray) (ms : List Int) (l : List Dt) (p : Int) (d : Dt) : mRf ls (n + 1) (.mk k t ms l p) d = if roleOf ls (.mk k t ms l p) = 2 then (if d.isS t = true then some [] else none) else if roleOf ls (.mk k t ms l p) = 3 then some [] else if roleOf ls (.mk k t ms l p) = 4 then some [.mk (.mk k t ms l p) 0 d []]
  else if k ≠ d.kind then none else if k = 1 ∨ k = 2 then (if (t.toList == d.text.toList) = true then some [] else none) else if k = 4 then mL ls (mRf ls n) l d.dl9 else none := by rw [mRf]; rfl
/-- What a call of match leaves: a row that holds more; all that is bound, if it matches. -/
def RetR (A B : Nat) (w : World) (v : Value) (bs : List Bd) (sz : Nat) (res : Option (List Bd)) (e : Ending) (w' : World) : Prop :=
 ∃ v' bs', e = .returned (.tuple #[v', .bool res.isSome]) ∧ OwnR A B w' v' bs' ∧ Grw w w' v v' ∧ (∀ r, res = some r → bs' = bs ++ r) ∧ bs'.length ≤ bs.length + sz
def ListR (n : Nat) : Prop := ∀ (ps ds : List Dt), Dt.sizes ps ≤ n → pats ps true false = true → wfs ps → ∀ (A B bw : Nat) (ls : List ByteArray) (v pv dv : Value) (bs : List Bd) (w : World), A ≤ B → B ≤ w.heap.size → LAt (fun g => g < A) w pv ps → LAt (fun g => g < A) w dv ds → WordsAt w bw ls → bw < A → OwnR A B w v bs → bs.length + Dt.sizes ps ≤ 3000000 → (∀ d ∈ ds, d.size ≤ 1000000) → ds.length ≤ 1000000 →
 Calls Try.prog 78 #[.agg #[.map (some bw)], v, pv, dv] w (RetR A B w v bs (Dt.sizes ps) (mL ls (mRf ls n) ps ds))
def EachR (n : Nat) : Prop := ∀ (ps ds : List Dt), Dt.sizes ps ≤ n → (∀ p ∈ ps, p.pat = true) → wfs ps → ∀ (A B bw : Nat) (ls : List ByteArray) (v pv dv : Value) (bs : List Bd) (w : World), A ≤ B → B ≤ w.heap.size → LAt (fun g => g < A) w pv ps → LAt (fun g => g < A) w dv ds → WordsAt w bw ls → bw < A → OwnR A B w v bs → bs.length + Dt.sizes ps ≤ 3000000 → (∀ d ∈ ds, d.size ≤ 1000000) → ds.length ≤ 1000000 →
 Calls Try.prog 90 #[.agg #[.map (some bw)], v, pv, dv] w (RetR A B w v bs (Dt.sizes ps) (mE (mRf ls n) ps ds))
def MatchR (n : Nat) : Prop := ∀ (p d : Dt), p.size ≤ n → p.pat = true → p.wf → ∀ (A B bw : Nat) (ls : List ByteArray) (v : Value) (pcs dcs : Array Value) (bs : List Bd) (w : World), A ≤ B → B ≤ w.heap.size → Dt.At (fun g => g < A) w p pcs → Dt.At (fun g => g < A) w d dcs → WordsAt w bw ls → bw < A → OwnR A B w v bs → bs.length + p.size ≤ 3000000 → d.size ≤ 1000000 →
 Calls Try.prog 53 #[.agg #[.map (some bw)], v, .agg pcs, .agg dcs] w (RetR A B w v bs p.size (mRf ls n p d))
def RowR (n : Nat) : Prop := ∀ (p : Dt) (ds : List Dt), p.size ≤ n → p.pat = true → p.wf → ∀ (A B bw : Nat) (ls : List ByteArray) (v dv : Value) (pcs : Array Value) (bs : List Bd) (w : World), A ≤ B → B ≤ w.heap.size → Dt.At (fun g => g < A) w p pcs → LAt (fun g => g < A) w dv ds → WordsAt w bw ls → bw < A → OwnR A B w v bs → bs.length + p.size ≤ 3000000 → (∀ d ∈ ds, d.size ≤ 1000000) → ds.length ≤ 1000000 →
 Calls Try.prog 91 #[.agg #[.map (some bw)], v, .agg pcs, dv] w (RetR A B w v bs p.size ((allR (mRf ls n p) ds).map (mkRows (p.vars (isVar ls) 1))))
end Go.Proofs.Ytecljchifebljaa
