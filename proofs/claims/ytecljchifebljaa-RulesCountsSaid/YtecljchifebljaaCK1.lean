/- Rules: the program's Check. -/
import Derived.Test.YtecljchifebljaaYAA
import Derived.Test.YtecljchifebljaaYAQ
set_option linter.unusedVariables false
set_option linter.unusedSimpArgs false
namespace Go.Proofs.Ytecljchifebljaa
open Go Go.RowKit
attribute [local go_sem] Oper.semAt_some
/-- What the program's Check answers. -/
def chkD (ls : List ByteArray) : Dt → Dt → Int
 | .mk k t ms l p, d => if k ≠ 4 ∨ pats l true false = false then 7 else if twcB (tabB ls (.mk k t ms l p)) = true then 9 else if (d.dpst (tabB ls (.mk k t ms l p)) 0).isSome = false then 7 else 0
def RetInt9 (n : Int) (w : World) (e : Ending) (w' : World) : Prop := e = .returned (.int .i64 n) ∧ Below w.heap.size w w'
set_option maxHeartbeats 16000000 in
set_option maxRecDepth 100000 in
theorem check_any (ls : List ByteArray) (lv : Value) (d0 dt : Dt) (pcs tcs : Array Value) (w : World) (hls : LitsAt w lv ls) (hll : ls.length ≤ 1000000) (hlz : ∀ s ∈ ls, s.size ≤ 1000000) (hp : Dt.At (fun g => g < w.heap.size) w d0 pcs) (ht : Dt.At (fun g => g < w.heap.size) w dt tcs) (hw0 : d0.wf) (hwt : dt.wf)
  (hs0 : d0.size ≤ 9000) (hst : dt.size ≤ 9000) : Calls Try.prog 20 #[lv, .agg pcs, .agg tcs] w (RetInt9 (chkD ls d0 dt) w) := by
 obtain ⟨dd, hdd⟩ : ∃ x, x = d0 := ⟨_, rfl⟩
 have hp1 := hp
 have hw1 := hw0
 rw [← hdd] at hp1 hw1 hs0 ⊢
 have HLS := Lib.hid hls
 have HLZ := Lib.hid hlz
 have HW0 := Lib.hid hw1
 have HWT := Lib.hid hwt
 obtain ⟨ao, ac, rfl⟩ := hls.form
 have HTB := Lib.hid (tabB_of (ls := ls) hw1)
 have htl : (tabB ls dd).length ≤ dd.size := (tabB_of hw1).1
 obtain ⟨k2, t2, mo2, mn2, mc2, lo2, ln2, lc2, p2, rfl⟩ := At_slices ht
 obtain ⟨k, t, ms, l, p⟩ := d0
 have HCK : Hid (chkD ls dd dt = if k ≠ 4 ∨ pats l true false = false then 7 else if twcB (tabB ls dd) = true then 9 else if (dt.dpst (tabB ls dd) 0).isSome = false then 7 else 0) := by show _ = _; rw [hdd]; rfl
 have hwl : wfs l := ((wf_mk ..).1 hw0).2.2.1
 have hsz : 1 + Dt.sizes l = dd.size := by rw [hdd]; simp only [Dt.size]
 rw [At_mk] at hp
 obtain ⟨mv, lv2, rfl, hm, hl⟩ := hp
 obtain ⟨mo, mc, rfl⟩ := MAt.form2 hm
 obtain ⟨lo, lc, rfl⟩ := hl.form
 obtain ⟨mn, hmn⟩ : ∃ n, n = ms.length := ⟨_, rfl⟩
 rw [← hmn] at hp1 hm ⊢
 have hb0 : Below w.heap.size w ((w.alloc (.cells #[.int .i64 k, .string t, .slice mo mn mc, .slice lo l.length lc, .int .i64 p] 29)).alloc (.cells #[.int .i64 k2, .string t2, .slice mo2 mn2 mc2, .slice lo2 ln2 lc2, .int .i64 p2] 29)) := ((Below.refl _ _).alloc (Nat.le_refl _) _).alloc (by simp) _
 have hx0 : ((w.alloc (.cells #[.int .i64 k, .string t, .slice mo mn mc, .slice lo l.length lc, .int .i64 p] 29)).alloc (.cells #[.int .i64 k2, .string t2, .slice mo2 mn2 mc2, .slice lo2 ln2 lc2, .int .i64 p2] 29)).heap[w.heap.size]? = some (Obj.cells #[.int .i64 k, .string t, .slice mo mn mc, .slice lo l.length lc, .int .i64 p] 29 (0, 0)) := (Lib.alloc_old _ _ _ (by simp)).trans (alloc_at _ _)
 have hx1 : ((w.alloc (.cells #[.int .i64 k, .string t, .slice mo mn mc, .slice lo l.length lc, .int .i64 p] 29)).alloc (.cells #[.int .i64 k2, .string t2, .slice mo2 mn2 mc2, .slice lo2 ln2 lc2, .int .i64 p2] 29)).heap[w.heap.size + 1]? = some (Obj.cells #[.int .i64 k2, .string t2, .slice mo2 mn2 mc2, .slice lo2 ln2 lc2, .int .i64 p2] 29 (0, 0)) := by
  have h := alloc_at (w.alloc (.cells #[.int .i64 k, .string t, .slice mo mn mc, .slice lo l.length lc, .int .i64 p] 29)) (.cells #[.int .i64 k2, .string t2, .slice mo2 mn2 mc2, .slice lo2 ln2 lc2, .int .i64 p2] 29)
  rw [World.size_alloc] at h; exact h
 have hs9 : ((w.alloc (.cells #[.int .i64 k, .string t, .slice mo mn mc, .slice lo l.length lc, .int .i64 p] 29)).alloc (.cells #[.int .i64 k2, .string t2, .slice mo2 mn2 mc2, .slice lo2 ln2 lc2, .int .i64 p2] 29)).heap.size = w.heap.size + 1 + 1 := by simp
 have HTT := Lib.hid ht
 have HP := Lib.hid hp1
 have HWL := Lib.hid hwl
 have HL := Lib.hid hl
 clear hp1 hw1 hls hlz hdd hw0 hwt hm hl hmn ht hwl
 go_enter Try.func20, Try.ntmps20
 go_upto_region 1 with fail
 obtain ⟨X, hX⟩ : ∃ X, X = ((w.alloc (.cells #[.int .i64 k, .string t, .slice mo mn mc, .slice lo l.length lc, .int .i64 p] 29)).alloc (.cells #[.int .i64 k2, .string t2, .slice mo2 mn2 mc2, .slice lo2 ln2 lc2, .int .i64 p2] 29)) := ⟨_, rfl⟩
 rw [← hX] at hb0 hx0 hx1 hs9
 rw [← hX]
 clear hX
 have HB0 := Lib.hid hb0
 have HX0 := Lib.hid hx0
 have HX1 := Lib.hid hx1
 clear hb0 hx0 hx1
 have y0 : X.cell? ⟨w.heap.size, 0, none⟩ = some (.int .i64 k) := by rw [Lib.cell_of_heap HX0.out]; rfl
 have y3 : X.cell? ⟨w.heap.size, 3, none⟩ = some (.slice lo l.length lc) := by rw [Lib.cell_of_heap HX0.out]; rfl
 by_cases hk4 : k = 4
 ·have q4 : (k != 4) = false := by rw [bne_eq_false_iff_eq]; exact hk4
  have HK4 := Lib.hid hk4
  clear hk4
  go_wp2_with fail
  refine (formed_any (dd.size + 1) (by omega) l (by omega) HWL.out _ _ X (HL.out.keeps (Keeps.of_below HB0.out))).mono ?_
  rintro e w2 ⟨rfl, hb2⟩
  clear y0 y3
  cases hf : pats l true false with
  | false =>
   have HE : Hid (chkD ls dd dt = 7) := by show _ = _; rw [HCK.out, if_pos (.inr hf)]
   go_wp2_with fail
   go_ret
   exact ⟨by rw [HE.out]; rfl, HB0.out.trans (hb2.mono (by omega))⟩
  | true =>
   have HE : Hid (chkD ls dd dt = if twcB (tabB ls dd) = true then 9 else if (dt.dpst (tabB ls dd) 0).isSome = false then 7 else 0) := by show _ = _; rw [HCK.out, if_neg (fun h => by rcases h with h | h; (· exact h HK4.out); rw [hf] at h; cases h)]
   clear hf
   go_upto_region 3 with fail
   rename_i K hK
   have REST : Hid (∀ (bw : Nat) (vo : Option Addr) (vc : Nat) (so : Option Addr) (sc bm bt B9 : Nat) (W : World), Below w.heap.size w W → PsAt (fun g => g < B9) W (.slice so (tabB ls dd).length sc) (tabB ls dd) → TbAt W (bm + 1) bm (keysB (tabB ls dd)) → w.heap.size ≤ B9 → B9 ≤ W.heap.size →
     W.heap[bt]? = some (Obj.cells #[.slice so (tabB ls dd).length sc, .map (some bm)] 86 (0, 0)) → W.heap[w.heap.size + 1]? = some (Obj.cells #[.int .i64 k2, .string t2, .slice mo2 mn2 mc2, .slice lo2 ln2 lc2, .int .i64 p2] 29 (0, 0)) →
     K { tmps := #[.slice ao ls.length ac, .agg #[.int .i64 k, .string t, .slice mo mn mc, .slice lo l.length lc, .int .i64 p], .agg #[.int .i64 k2, .string t2, .slice mo2 mn2 mc2, .slice lo2 ln2 lc2, .int .i64 p2], undef, .pointer (some ⟨w.heap.size, 0, none⟩), .pointer (some ⟨w.heap.size + 1, 0, none⟩), .int .i64 0, .pointer (some ⟨bt, 0, none⟩), .pointer (some ⟨w.heap.size, 0, none⟩), .int .i64 k, .bool false, .bool false, .pointer (some ⟨w.heap.size, 3, none⟩), .slice lo l.length lc, .bool true, .bool false, .bool false, .slice ao ls.length ac, .agg #[.map (some bw)], .agg #[.int .i64 k, .string t, .slice mo mn mc, .slice lo l.length lc, .int .i64 p], .slice vo (tabB ls dd).length vc, .agg #[.slice so (tabB ls dd).length sc, .map (some bm)], .agg #[.slice so (tabB ls dd).length sc, .map (some bm)], undef, undef, undef, undef, undef, undef, undef, undef, undef], defers := [] } W) := by
    intro bw vo vc so sc bm bt B9 W hb hP hM hB1 hB2 hA hX
    refine hK _ _ ?_
    have HB := Lib.hid hb
    have HPP := Lib.hid hP
    have HM := Lib.hid hM
    have HA := Lib.hid hA
    have HX := Lib.hid hX
    have hbw := hb.size
    have c0 : W.cell? ⟨bt, 0, none⟩ = some (.slice so (tabB ls dd).length sc) := by rw [Lib.cell_of_heap hA]; rfl
    have c1 : W.cell? ⟨bt, 1, none⟩ = some (.map (some bm)) := by rw [Lib.cell_of_heap hA]; rfl
    clear hK hb hP hM hA hX
    go_wp2_with fail
    refine (twice_any (tabB ls dd) _ bm W HPP.out HM.out (fun b hb => (HTB.out.2 b hb).1) (by omega) (fun b hb => by have := (HTB.out.2 b hb).2; omega)).mono ?_
    rintro e w6 ⟨rfl, hb6⟩
    clear c0 c1
    have hs6 := hb6.size
    cases htw : twcB (tabB ls dd) with
    | true =>
     have HE2 : Hid (chkD ls dd dt = 9) := by show _ = _; rw [HE.out, if_pos htw]
     go_wp2_with fail
     go_ret
     exact ⟨by rw [HE2.out]; rfl, HB.out.trans (hb6.mono (by omega))⟩
    | false =>
     have HE2 : Hid (chkD ls dd dt = if (dt.dpst (tabB ls dd) 0).isSome = false then 7 else 0) := by show _ = _; rw [HE.out, if_neg (by rw [htw]; decide)]
     clear htw
     have hA6 : w6.heap[bt]? = some (Obj.cells #[.slice so (tabB ls dd).length sc, .map (some bm)] 86 (0, 0)) := (hb6.block _ (Array.getElem?_eq_some_iff.1 HA.out).1).trans HA.out
     have hX6 : w6.heap[w.heap.size + 1]? = some (Obj.cells #[.int .i64 k2, .string t2, .slice mo2 mn2 mc2, .slice lo2 ln2 lc2, .int .i64 p2] 29 (0, 0)) := (hb6.block _ (Array.getElem?_eq_some_iff.1 HX.out).1).trans HX.out
     have c0 : w6.cell? ⟨bt, 0, none⟩ = some (.slice so (tabB ls dd).length sc) := by rw [Lib.cell_of_heap hA6]; rfl
     have c1 : w6.cell? ⟨bt, 1, none⟩ = some (.map (some bm)) := by rw [Lib.cell_of_heap hA6]; rfl
     have y0 : w6.cell? ⟨w.heap.size + 1, 0, none⟩ = some (.int .i64 k2) := by rw [Lib.cell_of_heap hX6]; rfl
     have y1 : w6.cell? ⟨w.heap.size + 1, 1, none⟩ = some (.string t2) := by rw [Lib.cell_of_heap hX6]; rfl
     have y2 : w6.cell? ⟨w.heap.size + 1, 2, none⟩ = some (.slice mo2 mn2 mc2) := by rw [Lib.cell_of_heap hX6]; rfl
     have y3 : w6.cell? ⟨w.heap.size + 1, 3, none⟩ = some (.slice lo2 ln2 lc2) := by rw [Lib.cell_of_heap hX6]; rfl
     have y4 : w6.cell? ⟨w.heap.size + 1, 4, none⟩ = some (.int .i64 p2) := by rw [Lib.cell_of_heap hX6]; rfl
     have HB6 := Lib.hid (HB.out.trans (hb6.mono (by omega)))
     have AW := Lib.hid (allows_any dt HWT.out B9 _ (tabB ls dd) _ bm w6 (by omega) ((Dt.At.keeps (Keeps.of_below HB6.out) _ _ HTT.out).mono (fun g h => by have : g < w.heap.size := h; show g < B9; omega)) (HPP.out.keeps (KeepsB.of_below hb6)) (HM.out.kept (Below.grownRow hb6 none) (fun r e => by cases e)) (by omega) (fun b hb => by have := (HTB.out.2 b hb).2; omega) hst)
     clear hA6 hX6 hb6
     go_wp2_with fail
     refine AW.out.mono ?_
     rintro e w7 ⟨rfl, hb7⟩
     clear c0 c1 y0 y1 y2 y3 y4 AW
     cases hal : (dt.dpst (tabB ls dd) 0).isSome with
     | true =>
      have HE3 : Hid (chkD ls dd dt = 0) := by show _ = _; rw [HE2.out, if_neg (by rw [hal]; decide)]
      go_wp2_with fail
      go_ret
      exact ⟨by rw [HE3.out]; rfl, HB6.out.trans (hb7.mono (by omega))⟩
     | false =>
      have HE3 : Hid (chkD ls dd dt = 7) := by show _ = _; rw [HE2.out, if_pos hal]
      go_wp2_with fail
      go_ret
      exact ⟨by rw [HE3.out]; rfl, HB6.out.trans (hb7.mono (by omega))⟩
   have HC : Hid (∀ w' : World, w'.heap[w.heap.size]? = some (Obj.cells #[.int .i64 k, .string t, .slice mo mn mc, .slice lo l.length lc, .int .i64 p] 29 (0, 0)) → w'.cell? ⟨w.heap.size, 0, none⟩ = some (.int .i64 k) ∧ w'.cell? ⟨w.heap.size, 1, none⟩ = some (.string t) ∧ w'.cell? ⟨w.heap.size, 2, none⟩ = some (.slice mo mn mc) ∧ w'.cell? ⟨w.heap.size, 3, none⟩ = some (.slice lo l.length lc) ∧ w'.cell? ⟨w.heap.size, 4, none⟩ = some (.int .i64 p)) := by
    intro w' h
    exact ⟨by rw [Lib.cell_of_heap h]; rfl, by rw [Lib.cell_of_heap h]; rfl, by rw [Lib.cell_of_heap h]; rfl, by rw [Lib.cell_of_heap h]; rfl, by rw [Lib.cell_of_heap h]; rfl⟩
   have hb : Below w.heap.size w w2.drew := (HB0.out.trans (hb2.mono (by omega))).drew
   have hX0 : w2.drew.heap[w.heap.size]? = some (Obj.cells #[.int .i64 k, .string t, .slice mo mn mc, .slice lo l.length lc, .int .i64 p] 29 (0, 0)) := (hb2.block _ (Array.getElem?_eq_some_iff.1 HX0.out).1).trans HX0.out
   have hX1 : w2.drew.heap[w.heap.size + 1]? = some (Obj.cells #[.int .i64 k2, .string t2, .slice mo2 mn2 mc2, .slice lo2 ln2 lc2, .int .i64 p2] 29 (0, 0)) := (hb2.block _ (Array.getElem?_eq_some_iff.1 HX1.out).1).trans HX1.out
   clear hK hb2 HX0 HX1 HB0 HL HWL
   refine wp_region_noPanic ?_
   refine wp_region_held_drew (S := fun W => W.heap[w.heap.size]? = some (Obj.cells #[.int .i64 k, .string t, .slice mo mn mc, .slice lo l.length lc, .int .i64 p] 29 (0, 0))) (by kernel_rfl) hX0 (fun hHeld => ?_)
   generalize w2.drew = V_ at hb hX0 hX1 hHeld ⊢
   refine qtk (i := 0) (v := ?v0) rfl rfl (fun w' hw' => ?h0) hHeld ?r0
   case h0 => go_simp; try with_reducible rfl
   simp only [zt,zs,zz,Act.put,zi,zy,zx]
   refine qtk (i := 2) (v := ?v1) rfl rfl (fun w' hw' => ?h1) hHeld ?r1
   case h1 => (obtain ⟨e0, e1, e2, e3, e4⟩ := HC.out w' hw'; go_simp); try with_reducible rfl
   simp only [zt,zs,zz,Act.put,zi,zy,zx]
   refine wpAnyH_ready (rs := [1, 6]) (by kernel_rfl) (by simp) ?_
   refine (AllReadyH.cons rfl (fun K hK => ?_) (AllReadyH.cons rfl (fun K hK => ?_) AllReadyH.nil))
   ·skip
    go_simp
    refine (wordsOf_any ls _ V_ (HLS.out.below hb) hll HLZ.out).mono ?_
    rintro e V_1 ⟨bw, rfl, _, hWd, hbN⟩
    have hsN := hbN.size
    have hX0 : V_1.heap[w.heap.size]? = some (Obj.cells #[.int .i64 k, .string t, .slice mo mn mc, .slice lo l.length lc, .int .i64 p] 29 (0, 0)) := (hbN.block _ (Array.getElem?_eq_some_iff.1 hX0).1).trans hX0
    have hX1 : V_1.heap[w.heap.size + 1]? = some (Obj.cells #[.int .i64 k2, .string t2, .slice mo2 mn2 mc2, .slice lo2 ln2 lc2, .int .i64 p2] 29 (0, 0)) := (hbN.block _ (Array.getElem?_eq_some_iff.1 hX1).1).trans hX1
    have hb : Below w.heap.size w V_1 := hb.trans (hbN.mono hb.size)
    clear hbN
    refine hK.out _ _ hX0 (fun hHeld => ?_)
    clear hK K
    try simp only [zt,zs,zz,Act.put,zi,zy,zx]
    refine wpAnyH_ready (rs := [3, 6]) (by kernel_rfl) (by simp) ?_
    refine (AllReadyH.cons rfl (fun K hK => ?_) (AllReadyH.cons rfl (fun K hK => ?_) AllReadyH.nil))
    ·skip
     go_simp
     have hbs := hb.size
     refine (variables_any dd.size (by omega) dd (Nat.le_refl _) HW0.out V_1.heap.size _ bw ls 0 (.slice none 0 0) [] V_1 (Nat.le_refl _) ((Dt.At.keeps (Keeps.of_below hb) _ _ HP.out).mono (fun g h => by have : g < w.heap.size := h; show g < V_1.heap.size; omega)) hWd hWd.lt (OwnPI.nil _ _ _) (by simp; omega) (by omega) (by omega)).mono ?_
     rintro e V_13 ⟨v3, rfl, hO3, hG3⟩
     have hbN : Below V_1.heap.size V_1 V_13 := Below.of_grown_none hG3.1
     have hVs : PsAt (fun g => g < V_13.heap.size) V_13 v3 (tabB ls dd) := OwnPI.atlow hO3 hbN.size
     obtain ⟨vo, vc, rfl⟩ := hVs.form
     have hsN := hbN.size
     have hX0 : V_13.heap[w.heap.size]? = some (Obj.cells #[.int .i64 k, .string t, .slice mo mn mc, .slice lo l.length lc, .int .i64 p] 29 (0, 0)) := (hbN.block _ (Array.getElem?_eq_some_iff.1 hX0).1).trans hX0
     have hX1 : V_13.heap[w.heap.size + 1]? = some (Obj.cells #[.int .i64 k2, .string t2, .slice mo2 mn2 mc2, .slice lo2 ln2 lc2, .int .i64 p2] 29 (0, 0)) := (hbN.block _ (Array.getElem?_eq_some_iff.1 hX1).1).trans hX1
     have hb : Below w.heap.size w V_13 := hb.trans (hbN.mono hb.size)
     have hWd : WordsAt V_13 bw ls := hWd.below hbN hWd.lt
     clear hbN hO3 hG3 hWd
     refine hK.out _ _ hX0 (fun hHeld => ?_)
     clear hK K
     try simp only [zt,zs,zz,Act.put,zi,zy,zx]
     refine wpAnyH_ready (rs := [4, 6]) (by kernel_rfl) (by simp) ?_
     refine (AllReadyH.cons rfl (fun K hK => ?_) (AllReadyH.cons rfl (fun K hK => ?_) AllReadyH.nil))
     ·skip
      go_simp
      refine (tableOf_any (tabB ls dd) _ V_13 hVs (by omega) (fun b hb => (HTB.out.2 b hb).1)).mono ?_
      rintro e V_134 ⟨lv4, bm, rfl, ⟨hO4, hM, _⟩, hbN⟩
      have hC : PsAt (fun g => g < V_134.heap.size) V_134 lv4 (tabB ls dd) := OwnPI.atlow hO4 hbN.size
      obtain ⟨so, sc, rfl⟩ := hC.form
      obtain ⟨B9, hB9⟩ : ∃ B, B = V_134.heap.size := ⟨_, rfl⟩
      rw [← hB9] at hC
      have hbs := hb.size
      have hsN := hbN.size
      have hX0 : V_134.heap[w.heap.size]? = some (Obj.cells #[.int .i64 k, .string t, .slice mo mn mc, .slice lo l.length lc, .int .i64 p] 29 (0, 0)) := (hbN.block _ (Array.getElem?_eq_some_iff.1 hX0).1).trans hX0
      have hX1 : V_134.heap[w.heap.size + 1]? = some (Obj.cells #[.int .i64 k2, .string t2, .slice mo2 mn2 mc2, .slice lo2 ln2 lc2, .int .i64 p2] 29 (0, 0)) := (hbN.block _ (Array.getElem?_eq_some_iff.1 hX1).1).trans hX1
      have hb : Below w.heap.size w V_134 := hb.trans (hbN.mono hb.size)
      have hVs : PsAt (fun g => g < V_134.heap.size) V_134 (.slice vo (tabB ls dd).length vc) (tabB ls dd) := (hVs.keeps (KeepsB.of_below hbN)).mono (fun g h => by have : g < V_13.heap.size := h; show g < V_134.heap.size; omega)
      have hB1 : w.heap.size ≤ B9 := by omega
      have hB2 : B9 ≤ V_134.heap.size := by omega
      clear hbN hO4 hVs hB9
      refine hK.out _ _ hX0 (fun hHeld => ?_)
      clear hK K
      try simp only [zt,zs,zz,Act.put,zi,zy,zx]
      refine qtk (i := 5) (v := ?v2) rfl rfl (fun w' hw' => ?h2) hHeld ?r2
      case h2 => go_simp; try with_reducible rfl
      simp only [zt,zs,zz,Act.put,zi,zy,zx]
      refine wpAnyH_ready (rs := [6]) (by kernel_rfl) (by simp) ?_
      refine (AllReadyH.cons rfl (fun K hK => ?_) AllReadyH.nil)
      go_simp
      have hbN : Below V_134.heap.size V_134 (V_134.alloc (.cells #[.slice none 0 0, .map none] 86)) := (Below.refl _ _).alloc (Nat.le_refl _) _
      have hA9 : (V_134.alloc (.cells #[.slice none 0 0, .map none] 86)).heap[V_134.heap.size]? = some (Obj.cells #[.slice none 0 0, .map none] 86 (0, 0)) := alloc_at _ _
      refine hK.out _ _ ((hbN.block _ (Array.getElem?_eq_some_iff.1 hX0).1).trans hX0) (fun hHeld => ?_)
      clear hHeld
      generalize V_134.alloc (.cells #[.slice none 0 0, .map none] 86) = V_1346 at hbN hA9 ⊢
      obtain ⟨bt, hbt⟩ : ∃ m, m = V_134.heap.size := ⟨_, rfl⟩
      have hbs := hb.size
      have hx1l := (Array.getElem?_eq_some_iff.1 hX1).1
      have hsN := hbN.size
      have hX0 : V_1346.heap[w.heap.size]? = some (Obj.cells #[.int .i64 k, .string t, .slice mo mn mc, .slice lo l.length lc, .int .i64 p] 29 (0, 0)) := (hbN.block _ (Array.getElem?_eq_some_iff.1 hX0).1).trans hX0
      have hX1 : V_1346.heap[w.heap.size + 1]? = some (Obj.cells #[.int .i64 k2, .string t2, .slice mo2 mn2 mc2, .slice lo2 ln2 lc2, .int .i64 p2] 29 (0, 0)) := (hbN.block _ (Array.getElem?_eq_some_iff.1 hX1).1).trans hX1
      have hb : Below w.heap.size w V_1346 := hb.trans (hbN.mono hb.size)
      have hC : PsAt (fun g => g < B9) V_1346 (.slice so (tabB ls dd).length sc) (tabB ls dd) := hC.keeps (KeepsB.of_below hbN)
      have hM : TbAt V_1346 (bm + 1) bm (keysB (tabB ls dd)) := hM.kept (Below.grownRow hbN none) (fun r e => by cases e)
      have hB2 : B9 ≤ V_1346.heap.size := by omega
      rw [← hbt] at hA9 ⊢
      have hA := hA9
      have hHeld := hX0
      have hbtw : w.heap.size + 1 < bt := by omega
      clear hA9 hbN hsN hbt hx1l
      clear hK K
      try simp only [zt,zs,zz,Act.put,zi,zy,zx]
      refine wpAnyH_ready (rs := [7]) (by kernel_rfl) (by simp) ?_
      refine (AllReadyH.cons rfl (fun K hK => ?_) AllReadyH.nil)
      have c0 : V_1346.cell? ⟨bt, 0, none⟩ = some (.slice none 0 0) := by rw [Lib.cell_of_heap hA]; rfl
      have c1 : V_1346.cell? ⟨bt, 1, none⟩ = some (.map none) := by rw [Lib.cell_of_heap hA]; rfl
      have f0 : V_1346.frozen? ⟨bt, 0, none⟩ = false := by simp [World.frozen?, hA]
      have f1 : V_1346.frozen? ⟨bt, 1, none⟩ = false := by simp [World.frozen?, hA]
      go_simp
      have hA1 : (V_1346.setCell ⟨bt, 0, none⟩ (.slice so (tabB ls dd).length sc)).heap[bt]? = some (Obj.cells #[.slice so (tabB ls dd).length sc, .map none] 86 (0, 0)) := heap_setCell_same V_1346 bt 0 #[.slice none 0 0, .map none] 86 _ hA
      have hA2 : ((V_1346.setCell ⟨bt, 0, none⟩ (.slice so (tabB ls dd).length sc)).setCell ⟨bt, 1, none⟩ (.map (some bm))).heap[bt]? = some (Obj.cells #[.slice so (tabB ls dd).length sc, .map (some bm)] 86 (0, 0)) := heap_setCell_same _ bt 1 _ 86 _ hA1
      have hgW : V_1346.grownBy ((V_1346.setCell ⟨bt, 0, none⟩ (.slice so (tabB ls dd).length sc)).setCell ⟨bt, 1, none⟩ (.map (some bm))) (some bt) := two_set V_1346 bt _ _
      refine hK.out _ _ ((hgW.block _ (Array.getElem?_eq_some_iff.1 hX0).1 (fun e => by injection e with e; omega)).trans hX0) (fun hHeld => ?_)
      clear hHeld
      generalize (V_1346.setCell ⟨bt, 0, none⟩ (.slice so (tabB ls dd).length sc)).setCell ⟨bt, 1, none⟩ (.map (some bm)) = V9 at hA2 hgW ⊢
      have hX1 := (hgW.block _ (Array.getElem?_eq_some_iff.1 hX1).1 (fun e => by injection e with e; omega)).trans hX1
      have hC := hC.keepsT (KeepsT.of_cells hgW hA (by decide) (by decide) (by decide))
      have hX0 := (hgW.block _ (Array.getElem?_eq_some_iff.1 hX0).1 (fun e => by injection e with e; omega)).trans hX0
      have hM : TbAt V9 (bm + 1) bm (keysB (tabB ls dd)) := hM.kept hgW (fun r e => by injection e with e; subst e; exact ⟨TBNE hM hA, .inr (fun c fz e2 => by rw [hA] at e2; injection e2 with e2; injection e2 with _ e2; exact absurd e2 (by decide))⟩)
      have hb := hb.grown hgW hb.size (fun k e => by injection e with e; omega)
      have hsV := hgW.size
      have hA := hA2
      have hHeld := hX0
      clear c0 c1 f0 f1 hA1 hA2 hgW
      clear hK K
      try simp only [zt,zs,zz,Act.put,zi,zy,zx]
      refine wpAnyH_done (by kernel_rfl) ?_ _
      refine NoPanic.normal ?_
      clear hHeld
      exact REST.out _ _ _ _ _ _ _ B9 _ hb hC hM hB1 (by omega) hA hX1
     ·skip
      go_simp
      have hbN : Below V_13.heap.size V_13 (V_13.alloc (.cells #[.slice none 0 0, .map none] 86)) := (Below.refl _ _).alloc (Nat.le_refl _) _
      have hA9 : (V_13.alloc (.cells #[.slice none 0 0, .map none] 86)).heap[V_13.heap.size]? = some (Obj.cells #[.slice none 0 0, .map none] 86 (0, 0)) := alloc_at _ _
      refine hK.out _ _ ((hbN.block _ (Array.getElem?_eq_some_iff.1 hX0).1).trans hX0) (fun hHeld => ?_)
      clear hHeld
      generalize V_13.alloc (.cells #[.slice none 0 0, .map none] 86) = V_136 at hbN hA9 ⊢
      obtain ⟨bt, hbt⟩ : ∃ m, m = V_13.heap.size := ⟨_, rfl⟩
      have hbs := hb.size
      have hx1l := (Array.getElem?_eq_some_iff.1 hX1).1
      have hsN := hbN.size
      have hX0 : V_136.heap[w.heap.size]? = some (Obj.cells #[.int .i64 k, .string t, .slice mo mn mc, .slice lo l.length lc, .int .i64 p] 29 (0, 0)) := (hbN.block _ (Array.getElem?_eq_some_iff.1 hX0).1).trans hX0
      have hX1 : V_136.heap[w.heap.size + 1]? = some (Obj.cells #[.int .i64 k2, .string t2, .slice mo2 mn2 mc2, .slice lo2 ln2 lc2, .int .i64 p2] 29 (0, 0)) := (hbN.block _ (Array.getElem?_eq_some_iff.1 hX1).1).trans hX1
      have hb : Below w.heap.size w V_136 := hb.trans (hbN.mono hb.size)
      have hVs : PsAt (fun g => g < V_136.heap.size) V_136 (.slice vo (tabB ls dd).length vc) (tabB ls dd) := (hVs.keeps (KeepsB.of_below hbN)).mono (fun g h => by have : g < V_13.heap.size := h; show g < V_136.heap.size; omega)
      rw [← hbt] at hA9 ⊢
      have hA := hA9
      have hHeld := hX0
      have hbtw : w.heap.size + 1 < bt := by omega
      clear hA9 hbN hsN hbt hx1l
      clear hK K
      try simp only [zt,zs,zz,Act.put,zi,zy,zx]
      refine wpAnyH_ready (rs := [4]) (by kernel_rfl) (by simp) ?_
      refine (AllReadyH.cons rfl (fun K hK => ?_) AllReadyH.nil)
      go_simp
      refine (tableOf_any (tabB ls dd) _ V_136 hVs (by omega) (fun b hb => (HTB.out.2 b hb).1)).mono ?_
      rintro e V_1346 ⟨lv4, bm, rfl, ⟨hO4, hM, _⟩, hbN⟩
      have hC : PsAt (fun g => g < V_1346.heap.size) V_1346 lv4 (tabB ls dd) := OwnPI.atlow hO4 hbN.size
      obtain ⟨so, sc, rfl⟩ := hC.form
      obtain ⟨B9, hB9⟩ : ∃ B, B = V_1346.heap.size := ⟨_, rfl⟩
      rw [← hB9] at hC
      have hbs := hb.size
      have hsN := hbN.size
      have hX0 : V_1346.heap[w.heap.size]? = some (Obj.cells #[.int .i64 k, .string t, .slice mo mn mc, .slice lo l.length lc, .int .i64 p] 29 (0, 0)) := (hbN.block _ (Array.getElem?_eq_some_iff.1 hX0).1).trans hX0
      have hX1 : V_1346.heap[w.heap.size + 1]? = some (Obj.cells #[.int .i64 k2, .string t2, .slice mo2 mn2 mc2, .slice lo2 ln2 lc2, .int .i64 p2] 29 (0, 0)) := (hbN.block _ (Array.getElem?_eq_some_iff.1 hX1).1).trans hX1
      have hb : Below w.heap.size w V_1346 := hb.trans (hbN.mono hb.size)
      have hVs : PsAt (fun g => g < V_1346.heap.size) V_1346 (.slice vo (tabB ls dd).length vc) (tabB ls dd) := (hVs.keeps (KeepsB.of_below hbN)).mono (fun g h => by have : g < V_136.heap.size := h; show g < V_1346.heap.size; omega)
      have hA : V_1346.heap[bt]? = some (Obj.cells #[.slice none 0 0, .map none] 86 (0, 0)) := (hbN.block _ (Array.getElem?_eq_some_iff.1 hA).1).trans hA
      have hB1 : w.heap.size ≤ B9 := by omega
      have hB2 : B9 ≤ V_1346.heap.size := by omega
      clear hbN hO4 hVs hB9
      refine hK.out _ _ hX0 (fun hHeld => ?_)
      clear hK K
      try simp only [zt,zs,zz,Act.put,zi,zy,zx]
      refine qtk (i := 5) (v := ?v3) rfl rfl (fun w' hw' => ?h3) hHeld ?r3
      case h3 => go_simp; try with_reducible rfl
      simp only [zt,zs,zz,Act.put,zi,zy,zx]
      refine wpAnyH_ready (rs := [7]) (by kernel_rfl) (by simp) ?_
      refine (AllReadyH.cons rfl (fun K hK => ?_) AllReadyH.nil)
      have c0 : V_1346.cell? ⟨bt, 0, none⟩ = some (.slice none 0 0) := by rw [Lib.cell_of_heap hA]; rfl
      have c1 : V_1346.cell? ⟨bt, 1, none⟩ = some (.map none) := by rw [Lib.cell_of_heap hA]; rfl
      have f0 : V_1346.frozen? ⟨bt, 0, none⟩ = false := by simp [World.frozen?, hA]
      have f1 : V_1346.frozen? ⟨bt, 1, none⟩ = false := by simp [World.frozen?, hA]
      go_simp
      have hA1 : (V_1346.setCell ⟨bt, 0, none⟩ (.slice so (tabB ls dd).length sc)).heap[bt]? = some (Obj.cells #[.slice so (tabB ls dd).length sc, .map none] 86 (0, 0)) := heap_setCell_same V_1346 bt 0 #[.slice none 0 0, .map none] 86 _ hA
      have hA2 : ((V_1346.setCell ⟨bt, 0, none⟩ (.slice so (tabB ls dd).length sc)).setCell ⟨bt, 1, none⟩ (.map (some bm))).heap[bt]? = some (Obj.cells #[.slice so (tabB ls dd).length sc, .map (some bm)] 86 (0, 0)) := heap_setCell_same _ bt 1 _ 86 _ hA1
      have hgW : V_1346.grownBy ((V_1346.setCell ⟨bt, 0, none⟩ (.slice so (tabB ls dd).length sc)).setCell ⟨bt, 1, none⟩ (.map (some bm))) (some bt) := two_set V_1346 bt _ _
      refine hK.out _ _ ((hgW.block _ (Array.getElem?_eq_some_iff.1 hX0).1 (fun e => by injection e with e; omega)).trans hX0) (fun hHeld => ?_)
      clear hHeld
      generalize (V_1346.setCell ⟨bt, 0, none⟩ (.slice so (tabB ls dd).length sc)).setCell ⟨bt, 1, none⟩ (.map (some bm)) = V9 at hA2 hgW ⊢
      have hX1 := (hgW.block _ (Array.getElem?_eq_some_iff.1 hX1).1 (fun e => by injection e with e; omega)).trans hX1
      have hC := hC.keepsT (KeepsT.of_cells hgW hA (by decide) (by decide) (by decide))
      have hX0 := (hgW.block _ (Array.getElem?_eq_some_iff.1 hX0).1 (fun e => by injection e with e; omega)).trans hX0
      have hM : TbAt V9 (bm + 1) bm (keysB (tabB ls dd)) := hM.kept hgW (fun r e => by injection e with e; subst e; exact ⟨TBNE hM hA, .inr (fun c fz e2 => by rw [hA] at e2; injection e2 with e2; injection e2 with _ e2; exact absurd e2 (by decide))⟩)
      have hb := hb.grown hgW hb.size (fun k e => by injection e with e; omega)
      have hsV := hgW.size
      have hA := hA2
      have hHeld := hX0
      clear c0 c1 f0 f1 hA1 hA2 hgW
      clear hK K
      try simp only [zt,zs,zz,Act.put,zi,zy,zx]
      refine wpAnyH_done (by kernel_rfl) ?_ _
      refine NoPanic.normal ?_
      clear hHeld
      exact REST.out _ _ _ _ _ _ _ B9 _ hb hC hM hB1 (by omega) hA hX1
    ·skip
     go_simp
     have hbN : Below V_1.heap.size V_1 (V_1.alloc (.cells #[.slice none 0 0, .map none] 86)) := (Below.refl _ _).alloc (Nat.le_refl _) _
     have hA9 : (V_1.alloc (.cells #[.slice none 0 0, .map none] 86)).heap[V_1.heap.size]? = some (Obj.cells #[.slice none 0 0, .map none] 86 (0, 0)) := alloc_at _ _
     refine hK.out _ _ ((hbN.block _ (Array.getElem?_eq_some_iff.1 hX0).1).trans hX0) (fun hHeld => ?_)
     clear hHeld
     generalize V_1.alloc (.cells #[.slice none 0 0, .map none] 86) = V_16 at hbN hA9 ⊢
     obtain ⟨bt, hbt⟩ : ∃ m, m = V_1.heap.size := ⟨_, rfl⟩
     have hbs := hb.size
     have hx1l := (Array.getElem?_eq_some_iff.1 hX1).1
     have hsN := hbN.size
     have hX0 : V_16.heap[w.heap.size]? = some (Obj.cells #[.int .i64 k, .string t, .slice mo mn mc, .slice lo l.length lc, .int .i64 p] 29 (0, 0)) := (hbN.block _ (Array.getElem?_eq_some_iff.1 hX0).1).trans hX0
     have hX1 : V_16.heap[w.heap.size + 1]? = some (Obj.cells #[.int .i64 k2, .string t2, .slice mo2 mn2 mc2, .slice lo2 ln2 lc2, .int .i64 p2] 29 (0, 0)) := (hbN.block _ (Array.getElem?_eq_some_iff.1 hX1).1).trans hX1
     have hb : Below w.heap.size w V_16 := hb.trans (hbN.mono hb.size)
     have hWd : WordsAt V_16 bw ls := hWd.below hbN hWd.lt
     rw [← hbt] at hA9 ⊢
     have hA := hA9
     have hHeld := hX0
     have hbtw : w.heap.size + 1 < bt := by omega
     clear hA9 hbN hsN hbt hx1l
     clear hK K
     try simp only [zt,zs,zz,Act.put,zi,zy,zx]
     refine wpAnyH_ready (rs := [3]) (by kernel_rfl) (by simp) ?_
     refine (AllReadyH.cons rfl (fun K hK => ?_) AllReadyH.nil)
     go_simp
     have hbs := hb.size
     refine (variables_any dd.size (by omega) dd (Nat.le_refl _) HW0.out V_16.heap.size _ bw ls 0 (.slice none 0 0) [] V_16 (Nat.le_refl _) ((Dt.At.keeps (Keeps.of_below hb) _ _ HP.out).mono (fun g h => by have : g < w.heap.size := h; show g < V_16.heap.size; omega)) hWd hWd.lt (OwnPI.nil _ _ _) (by simp; omega) (by omega) (by omega)).mono ?_
     rintro e V_136 ⟨v3, rfl, hO3, hG3⟩
     have hbN : Below V_16.heap.size V_16 V_136 := Below.of_grown_none hG3.1
     have hVs : PsAt (fun g => g < V_136.heap.size) V_136 v3 (tabB ls dd) := OwnPI.atlow hO3 hbN.size
     obtain ⟨vo, vc, rfl⟩ := hVs.form
     have hsN := hbN.size
     have hX0 : V_136.heap[w.heap.size]? = some (Obj.cells #[.int .i64 k, .string t, .slice mo mn mc, .slice lo l.length lc, .int .i64 p] 29 (0, 0)) := (hbN.block _ (Array.getElem?_eq_some_iff.1 hX0).1).trans hX0
     have hX1 : V_136.heap[w.heap.size + 1]? = some (Obj.cells #[.int .i64 k2, .string t2, .slice mo2 mn2 mc2, .slice lo2 ln2 lc2, .int .i64 p2] 29 (0, 0)) := (hbN.block _ (Array.getElem?_eq_some_iff.1 hX1).1).trans hX1
     have hb : Below w.heap.size w V_136 := hb.trans (hbN.mono hb.size)
     have hWd : WordsAt V_136 bw ls := hWd.below hbN hWd.lt
     have hA : V_136.heap[bt]? = some (Obj.cells #[.slice none 0 0, .map none] 86 (0, 0)) := (hbN.block _ (Array.getElem?_eq_some_iff.1 hA).1).trans hA
     clear hbN hO3 hG3 hWd
     refine hK.out _ _ hX0 (fun hHeld => ?_)
     clear hK K
     try simp only [zt,zs,zz,Act.put,zi,zy,zx]
     refine wpAnyH_ready (rs := [4]) (by kernel_rfl) (by simp) ?_
     refine (AllReadyH.cons rfl (fun K hK => ?_) AllReadyH.nil)
     go_simp
     refine (tableOf_any (tabB ls dd) _ V_136 hVs (by omega) (fun b hb => (HTB.out.2 b hb).1)).mono ?_
     rintro e V_1346 ⟨lv4, bm, rfl, ⟨hO4, hM, _⟩, hbN⟩
     have hC : PsAt (fun g => g < V_1346.heap.size) V_1346 lv4 (tabB ls dd) := OwnPI.atlow hO4 hbN.size
     obtain ⟨so, sc, rfl⟩ := hC.form
     obtain ⟨B9, hB9⟩ : ∃ B, B = V_1346.heap.size := ⟨_, rfl⟩
     rw [← hB9] at hC
     have hbs := hb.size
     have hsN := hbN.size
     have hX0 : V_1346.heap[w.heap.size]? = some (Obj.cells #[.int .i64 k, .string t, .slice mo mn mc, .slice lo l.length lc, .int .i64 p] 29 (0, 0)) := (hbN.block _ (Array.getElem?_eq_some_iff.1 hX0).1).trans hX0
     have hX1 : V_1346.heap[w.heap.size + 1]? = some (Obj.cells #[.int .i64 k2, .string t2, .slice mo2 mn2 mc2, .slice lo2 ln2 lc2, .int .i64 p2] 29 (0, 0)) := (hbN.block _ (Array.getElem?_eq_some_iff.1 hX1).1).trans hX1
     have hb : Below w.heap.size w V_1346 := hb.trans (hbN.mono hb.size)
     have hVs : PsAt (fun g => g < V_1346.heap.size) V_1346 (.slice vo (tabB ls dd).length vc) (tabB ls dd) := (hVs.keeps (KeepsB.of_below hbN)).mono (fun g h => by have : g < V_136.heap.size := h; show g < V_1346.heap.size; omega)
     have hA : V_1346.heap[bt]? = some (Obj.cells #[.slice none 0 0, .map none] 86 (0, 0)) := (hbN.block _ (Array.getElem?_eq_some_iff.1 hA).1).trans hA
     have hB1 : w.heap.size ≤ B9 := by omega
     have hB2 : B9 ≤ V_1346.heap.size := by omega
     clear hbN hO4 hVs hB9
     refine hK.out _ _ hX0 (fun hHeld => ?_)
     clear hK K
     try simp only [zt,zs,zz,Act.put,zi,zy,zx]
     refine qtk (i := 5) (v := ?v4) rfl rfl (fun w' hw' => ?h4) hHeld ?r4
     case h4 => go_simp; try with_reducible rfl
     simp only [zt,zs,zz,Act.put,zi,zy,zx]
     refine wpAnyH_ready (rs := [7]) (by kernel_rfl) (by simp) ?_
     refine (AllReadyH.cons rfl (fun K hK => ?_) AllReadyH.nil)
     have c0 : V_1346.cell? ⟨bt, 0, none⟩ = some (.slice none 0 0) := by rw [Lib.cell_of_heap hA]; rfl
     have c1 : V_1346.cell? ⟨bt, 1, none⟩ = some (.map none) := by rw [Lib.cell_of_heap hA]; rfl
     have f0 : V_1346.frozen? ⟨bt, 0, none⟩ = false := by simp [World.frozen?, hA]
     have f1 : V_1346.frozen? ⟨bt, 1, none⟩ = false := by simp [World.frozen?, hA]
     go_simp
     have hA1 : (V_1346.setCell ⟨bt, 0, none⟩ (.slice so (tabB ls dd).length sc)).heap[bt]? = some (Obj.cells #[.slice so (tabB ls dd).length sc, .map none] 86 (0, 0)) := heap_setCell_same V_1346 bt 0 #[.slice none 0 0, .map none] 86 _ hA
     have hA2 : ((V_1346.setCell ⟨bt, 0, none⟩ (.slice so (tabB ls dd).length sc)).setCell ⟨bt, 1, none⟩ (.map (some bm))).heap[bt]? = some (Obj.cells #[.slice so (tabB ls dd).length sc, .map (some bm)] 86 (0, 0)) := heap_setCell_same _ bt 1 _ 86 _ hA1
     have hgW : V_1346.grownBy ((V_1346.setCell ⟨bt, 0, none⟩ (.slice so (tabB ls dd).length sc)).setCell ⟨bt, 1, none⟩ (.map (some bm))) (some bt) := two_set V_1346 bt _ _
     refine hK.out _ _ ((hgW.block _ (Array.getElem?_eq_some_iff.1 hX0).1 (fun e => by injection e with e; omega)).trans hX0) (fun hHeld => ?_)
     clear hHeld
     generalize (V_1346.setCell ⟨bt, 0, none⟩ (.slice so (tabB ls dd).length sc)).setCell ⟨bt, 1, none⟩ (.map (some bm)) = V9 at hA2 hgW ⊢
     have hX1 := (hgW.block _ (Array.getElem?_eq_some_iff.1 hX1).1 (fun e => by injection e with e; omega)).trans hX1
     have hC := hC.keepsT (KeepsT.of_cells hgW hA (by decide) (by decide) (by decide))
     have hX0 := (hgW.block _ (Array.getElem?_eq_some_iff.1 hX0).1 (fun e => by injection e with e; omega)).trans hX0
     have hM : TbAt V9 (bm + 1) bm (keysB (tabB ls dd)) := hM.kept hgW (fun r e => by injection e with e; subst e; exact ⟨TBNE hM hA, .inr (fun c fz e2 => by rw [hA] at e2; injection e2 with e2; injection e2 with _ e2; exact absurd e2 (by decide))⟩)
     have hb := hb.grown hgW hb.size (fun k e => by injection e with e; omega)
     have hsV := hgW.size
     have hA := hA2
     have hHeld := hX0
     clear c0 c1 f0 f1 hA1 hA2 hgW
     clear hK K
     try simp only [zt,zs,zz,Act.put,zi,zy,zx]
     refine wpAnyH_done (by kernel_rfl) ?_ _
     refine NoPanic.normal ?_
     clear hHeld
     exact REST.out _ _ _ _ _ _ _ B9 _ hb hC hM hB1 (by omega) hA hX1
   ·skip
    go_simp
    have hbN : Below V_.heap.size V_ (V_.alloc (.cells #[.slice none 0 0, .map none] 86)) := (Below.refl _ _).alloc (Nat.le_refl _) _
    have hA9 : (V_.alloc (.cells #[.slice none 0 0, .map none] 86)).heap[V_.heap.size]? = some (Obj.cells #[.slice none 0 0, .map none] 86 (0, 0)) := alloc_at _ _
    refine hK.out _ _ ((hbN.block _ (Array.getElem?_eq_some_iff.1 hX0).1).trans hX0) (fun hHeld => ?_)
    clear hHeld
    generalize V_.alloc (.cells #[.slice none 0 0, .map none] 86) = V_6 at hbN hA9 ⊢
    obtain ⟨bt, hbt⟩ : ∃ m, m = V_.heap.size := ⟨_, rfl⟩
    have hbs := hb.size
    have hx1l := (Array.getElem?_eq_some_iff.1 hX1).1
    have hsN := hbN.size
    have hX0 : V_6.heap[w.heap.size]? = some (Obj.cells #[.int .i64 k, .string t, .slice mo mn mc, .slice lo l.length lc, .int .i64 p] 29 (0, 0)) := (hbN.block _ (Array.getElem?_eq_some_iff.1 hX0).1).trans hX0
    have hX1 : V_6.heap[w.heap.size + 1]? = some (Obj.cells #[.int .i64 k2, .string t2, .slice mo2 mn2 mc2, .slice lo2 ln2 lc2, .int .i64 p2] 29 (0, 0)) := (hbN.block _ (Array.getElem?_eq_some_iff.1 hX1).1).trans hX1
    have hb : Below w.heap.size w V_6 := hb.trans (hbN.mono hb.size)
    rw [← hbt] at hA9 ⊢
    have hA := hA9
    have hHeld := hX0
    have hbtw : w.heap.size + 1 < bt := by omega
    clear hA9 hbN hsN hbt hx1l
    clear hK K
    try simp only [zt,zs,zz,Act.put,zi,zy,zx]
    refine wpAnyH_ready (rs := [1]) (by kernel_rfl) (by simp) ?_
    refine (AllReadyH.cons rfl (fun K hK => ?_) AllReadyH.nil)
    go_simp
    refine (wordsOf_any ls _ V_6 (HLS.out.below hb) hll HLZ.out).mono ?_
    rintro e V_16 ⟨bw, rfl, _, hWd, hbN⟩
    have hsN := hbN.size
    have hX0 : V_16.heap[w.heap.size]? = some (Obj.cells #[.int .i64 k, .string t, .slice mo mn mc, .slice lo l.length lc, .int .i64 p] 29 (0, 0)) := (hbN.block _ (Array.getElem?_eq_some_iff.1 hX0).1).trans hX0
    have hX1 : V_16.heap[w.heap.size + 1]? = some (Obj.cells #[.int .i64 k2, .string t2, .slice mo2 mn2 mc2, .slice lo2 ln2 lc2, .int .i64 p2] 29 (0, 0)) := (hbN.block _ (Array.getElem?_eq_some_iff.1 hX1).1).trans hX1
    have hb : Below w.heap.size w V_16 := hb.trans (hbN.mono hb.size)
    have hA : V_16.heap[bt]? = some (Obj.cells #[.slice none 0 0, .map none] 86 (0, 0)) := (hbN.block _ (Array.getElem?_eq_some_iff.1 hA).1).trans hA
    clear hbN
    refine hK.out _ _ hX0 (fun hHeld => ?_)
    clear hK K
    try simp only [zt,zs,zz,Act.put,zi,zy,zx]
    refine wpAnyH_ready (rs := [3]) (by kernel_rfl) (by simp) ?_
    refine (AllReadyH.cons rfl (fun K hK => ?_) AllReadyH.nil)
    go_simp
    have hbs := hb.size
    refine (variables_any dd.size (by omega) dd (Nat.le_refl _) HW0.out V_16.heap.size _ bw ls 0 (.slice none 0 0) [] V_16 (Nat.le_refl _) ((Dt.At.keeps (Keeps.of_below hb) _ _ HP.out).mono (fun g h => by have : g < w.heap.size := h; show g < V_16.heap.size; omega)) hWd hWd.lt (OwnPI.nil _ _ _) (by simp; omega) (by omega) (by omega)).mono ?_
    rintro e V_136 ⟨v3, rfl, hO3, hG3⟩
    have hbN : Below V_16.heap.size V_16 V_136 := Below.of_grown_none hG3.1
    have hVs : PsAt (fun g => g < V_136.heap.size) V_136 v3 (tabB ls dd) := OwnPI.atlow hO3 hbN.size
    obtain ⟨vo, vc, rfl⟩ := hVs.form
    have hsN := hbN.size
    have hX0 : V_136.heap[w.heap.size]? = some (Obj.cells #[.int .i64 k, .string t, .slice mo mn mc, .slice lo l.length lc, .int .i64 p] 29 (0, 0)) := (hbN.block _ (Array.getElem?_eq_some_iff.1 hX0).1).trans hX0
    have hX1 : V_136.heap[w.heap.size + 1]? = some (Obj.cells #[.int .i64 k2, .string t2, .slice mo2 mn2 mc2, .slice lo2 ln2 lc2, .int .i64 p2] 29 (0, 0)) := (hbN.block _ (Array.getElem?_eq_some_iff.1 hX1).1).trans hX1
    have hb : Below w.heap.size w V_136 := hb.trans (hbN.mono hb.size)
    have hWd : WordsAt V_136 bw ls := hWd.below hbN hWd.lt
    have hA : V_136.heap[bt]? = some (Obj.cells #[.slice none 0 0, .map none] 86 (0, 0)) := (hbN.block _ (Array.getElem?_eq_some_iff.1 hA).1).trans hA
    clear hbN hO3 hG3 hWd
    refine hK.out _ _ hX0 (fun hHeld => ?_)
    clear hK K
    try simp only [zt,zs,zz,Act.put,zi,zy,zx]
    refine wpAnyH_ready (rs := [4]) (by kernel_rfl) (by simp) ?_
    refine (AllReadyH.cons rfl (fun K hK => ?_) AllReadyH.nil)
    go_simp
    refine (tableOf_any (tabB ls dd) _ V_136 hVs (by omega) (fun b hb => (HTB.out.2 b hb).1)).mono ?_
    rintro e V_1346 ⟨lv4, bm, rfl, ⟨hO4, hM, _⟩, hbN⟩
    have hC : PsAt (fun g => g < V_1346.heap.size) V_1346 lv4 (tabB ls dd) := OwnPI.atlow hO4 hbN.size
    obtain ⟨so, sc, rfl⟩ := hC.form
    obtain ⟨B9, hB9⟩ : ∃ B, B = V_1346.heap.size := ⟨_, rfl⟩
    rw [← hB9] at hC
    have hbs := hb.size
    have hsN := hbN.size
    have hX0 : V_1346.heap[w.heap.size]? = some (Obj.cells #[.int .i64 k, .string t, .slice mo mn mc, .slice lo l.length lc, .int .i64 p] 29 (0, 0)) := (hbN.block _ (Array.getElem?_eq_some_iff.1 hX0).1).trans hX0
    have hX1 : V_1346.heap[w.heap.size + 1]? = some (Obj.cells #[.int .i64 k2, .string t2, .slice mo2 mn2 mc2, .slice lo2 ln2 lc2, .int .i64 p2] 29 (0, 0)) := (hbN.block _ (Array.getElem?_eq_some_iff.1 hX1).1).trans hX1
    have hb : Below w.heap.size w V_1346 := hb.trans (hbN.mono hb.size)
    have hVs : PsAt (fun g => g < V_1346.heap.size) V_1346 (.slice vo (tabB ls dd).length vc) (tabB ls dd) := (hVs.keeps (KeepsB.of_below hbN)).mono (fun g h => by have : g < V_136.heap.size := h; show g < V_1346.heap.size; omega)
    have hA : V_1346.heap[bt]? = some (Obj.cells #[.slice none 0 0, .map none] 86 (0, 0)) := (hbN.block _ (Array.getElem?_eq_some_iff.1 hA).1).trans hA
    have hB1 : w.heap.size ≤ B9 := by omega
    have hB2 : B9 ≤ V_1346.heap.size := by omega
    clear hbN hO4 hVs hB9
    refine hK.out _ _ hX0 (fun hHeld => ?_)
    clear hK K
    try simp only [zt,zs,zz,Act.put,zi,zy,zx]
    refine qtk (i := 5) (v := ?v5) rfl rfl (fun w' hw' => ?h5) hHeld ?r5
    case h5 => go_simp; try with_reducible rfl
    simp only [zt,zs,zz,Act.put,zi,zy,zx]
    refine wpAnyH_ready (rs := [7]) (by kernel_rfl) (by simp) ?_
    refine (AllReadyH.cons rfl (fun K hK => ?_) AllReadyH.nil)
    have c0 : V_1346.cell? ⟨bt, 0, none⟩ = some (.slice none 0 0) := by rw [Lib.cell_of_heap hA]; rfl
    have c1 : V_1346.cell? ⟨bt, 1, none⟩ = some (.map none) := by rw [Lib.cell_of_heap hA]; rfl
    have f0 : V_1346.frozen? ⟨bt, 0, none⟩ = false := by simp [World.frozen?, hA]
    have f1 : V_1346.frozen? ⟨bt, 1, none⟩ = false := by simp [World.frozen?, hA]
    go_simp
    have hA1 : (V_1346.setCell ⟨bt, 0, none⟩ (.slice so (tabB ls dd).length sc)).heap[bt]? = some (Obj.cells #[.slice so (tabB ls dd).length sc, .map none] 86 (0, 0)) := heap_setCell_same V_1346 bt 0 #[.slice none 0 0, .map none] 86 _ hA
    have hA2 : ((V_1346.setCell ⟨bt, 0, none⟩ (.slice so (tabB ls dd).length sc)).setCell ⟨bt, 1, none⟩ (.map (some bm))).heap[bt]? = some (Obj.cells #[.slice so (tabB ls dd).length sc, .map (some bm)] 86 (0, 0)) := heap_setCell_same _ bt 1 _ 86 _ hA1
    have hgW : V_1346.grownBy ((V_1346.setCell ⟨bt, 0, none⟩ (.slice so (tabB ls dd).length sc)).setCell ⟨bt, 1, none⟩ (.map (some bm))) (some bt) := two_set V_1346 bt _ _
    refine hK.out _ _ ((hgW.block _ (Array.getElem?_eq_some_iff.1 hX0).1 (fun e => by injection e with e; omega)).trans hX0) (fun hHeld => ?_)
    clear hHeld
    generalize (V_1346.setCell ⟨bt, 0, none⟩ (.slice so (tabB ls dd).length sc)).setCell ⟨bt, 1, none⟩ (.map (some bm)) = V9 at hA2 hgW ⊢
    have hX1 := (hgW.block _ (Array.getElem?_eq_some_iff.1 hX1).1 (fun e => by injection e with e; omega)).trans hX1
    have hC := hC.keepsT (KeepsT.of_cells hgW hA (by decide) (by decide) (by decide))
    have hX0 := (hgW.block _ (Array.getElem?_eq_some_iff.1 hX0).1 (fun e => by injection e with e; omega)).trans hX0
    have hM : TbAt V9 (bm + 1) bm (keysB (tabB ls dd)) := hM.kept hgW (fun r e => by injection e with e; subst e; exact ⟨TBNE hM hA, .inr (fun c fz e2 => by rw [hA] at e2; injection e2 with e2; injection e2 with _ e2; exact absurd e2 (by decide))⟩)
    have hb := hb.grown hgW hb.size (fun k e => by injection e with e; omega)
    have hsV := hgW.size
    have hA := hA2
    have hHeld := hX0
    clear c0 c1 f0 f1 hA1 hA2 hgW
    clear hK K
    try simp only [zt,zs,zz,Act.put,zi,zy,zx]
    refine wpAnyH_done (by kernel_rfl) ?_ _
    refine NoPanic.normal ?_
    clear hHeld
    exact REST.out _ _ _ _ _ _ _ B9 _ hb hC hM hB1 (by omega) hA hX1

 ·have q4 : (k != 4) = true := by rw [bne_iff_ne]; exact hk4
  have HE : Hid (chkD ls dd dt = 7) := by show _ = _; rw [HCK.out, if_pos (.inl hk4)]
  clear hk4
  go_wp2_with fail
  go_ret
  exact ⟨by rw [HE.out]; rfl, HB0.out⟩
end Go.Proofs.Ytecljchifebljaa
