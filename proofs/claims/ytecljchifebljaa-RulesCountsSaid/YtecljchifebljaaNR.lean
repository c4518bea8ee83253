/- Rules: the program's row. -/
import Derived.Test.YtecljchifebljaaYAA
import Derived.Test.YtecljchifebljaaYAC
import Derived.Test.YtecljchifebljaaYAU
import Derived.Laws.OwnMore
set_option linter.unusedVariables false
set_option linter.unusedSimpArgs false
namespace Go.Proofs.Ytecljchifebljaa
open Go Go.RowKit
attribute [local go_sem] Oper.semAt_some
set_option maxHeartbeats 16000000 in
set_option maxRecDepth 100000 in
theorem rowR_of (n : Nat) (hn : n ≤ 8000) (hM : MatchR n) : RowR n := by
 intro p ds hsz hpat hwf A B bw ls v dv pcs bs w hAB hBw hp hd hwds hbw hown hlen hds hdl
 have HM := Lib.hid hM
 have HPAT := Lib.hid hpat
 have HWF := Lib.hid hwf
 have HDS := Lib.hid hds
 have HP := hp
 obtain ⟨k, t, mo, mn, mc, lo, ln, lc, pl, rfl⟩ := At_slices hp
 replace HP := Lib.hid HP
 have HD := Lib.hid hd
 obtain ⟨dq, dc, rfl⟩ := hd.form
 have HOWN := hown
 obtain ⟨vo, vc, rfl⟩ := hown.form
 replace HOWN := Lib.hid HOWN
 obtain ⟨nb, hnb⟩ : ∃ n, n = bs.length := ⟨_, rfl⟩
 rw [← hnb] at HOWN ⊢
 have HNB := Lib.hid hnb
 have hbwA := Lib.hid hbw
 have HW := Lib.hid hwds
 have hb0 : Below w.heap.size w ((w.alloc (.cells #[.map (some bw)] 96)).alloc (.cells #[.int .i64 k, .string t, .slice mo mn mc, .slice lo ln lc, .int .i64 pl] 29)) := ((Below.refl _ _).alloc (Nat.le_refl _) _).alloc (by simp) _
 have hx0 : ((w.alloc (.cells #[.map (some bw)] 96)).alloc (.cells #[.int .i64 k, .string t, .slice mo mn mc, .slice lo ln lc, .int .i64 pl] 29)).heap[w.heap.size]? = some (Obj.cells #[.map (some bw)] 96 (0, 0)) := (Lib.alloc_old _ _ _ (by simp)).trans (alloc_at _ _)
 have hx1 : ((w.alloc (.cells #[.map (some bw)] 96)).alloc (.cells #[.int .i64 k, .string t, .slice mo mn mc, .slice lo ln lc, .int .i64 pl] 29)).heap[w.heap.size + 1]? = some (Obj.cells #[.int .i64 k, .string t, .slice mo mn mc, .slice lo ln lc, .int .i64 pl] 29 (0, 0)) := second2 _ _ _
 have hs0 : ((w.alloc (.cells #[.map (some bw)] 96)).alloc (.cells #[.int .i64 k, .string t, .slice mo mn mc, .slice lo ln lc, .int .i64 pl] 29)).heap.size = w.heap.size + 2 := by simp
 clear hM hpat hwf hds hp hd hown hnb hwds
 go_enter Try.func91, Try.ntmps91
 go_upto_region 1 with fail
 generalize ((w.alloc (.cells #[.map (some bw)] 96)).alloc (.cells #[.int .i64 k, .string t, .slice mo mn mc, .slice lo ln lc, .int .i64 pl] 29)) = W1 at hb0 hx0 hx1 hs0 ⊢
 have HC1 : Hid (∀ w', Below W1.heap.size W1 w' → w'.cell? ⟨w.heap.size, 0, none⟩ = some (.map (some bw)) ∧ w'.cell? ⟨w.heap.size + 1, 0, none⟩ = some (.int .i64 k) ∧ w'.cell? ⟨w.heap.size + 1, 1, none⟩ = some (.string t) ∧ w'.cell? ⟨w.heap.size + 1, 2, none⟩ = some (.slice mo mn mc) ∧ w'.cell? ⟨w.heap.size + 1, 3, none⟩ = some (.slice lo ln lc) ∧ w'.cell? ⟨w.heap.size + 1, 4, none⟩ = some (.int .i64 pl)) := by
  intro w' h
  have e := (h.block w.heap.size (by omega)).trans hx0
  have e' := (h.block (w.heap.size + 1) (by omega)).trans hx1
  exact ⟨by rw [Lib.cell_of_heap e]; rfl, by rw [Lib.cell_of_heap e']; rfl, by rw [Lib.cell_of_heap e']; rfl, by rw [Lib.cell_of_heap e']; rfl, by rw [Lib.cell_of_heap e']; rfl, by rw [Lib.cell_of_heap e']; rfl⟩
 have HB0 := Lib.hid hb0
 have FV := Lib.hid (variables_any 1000000 (Nat.le_refl _) p (by omega) HWF.out A _ bw ls 1 (.slice none 0 0) [] W1 (by omega) (Dt.At.keeps (Keeps.of_below hb0) _ _ HP.out) (HW.out.below hb0 (by omega)) hbw ⟨[], World.ownsRow_nil _ _ _ _, fun j h => absurd h (by simp)⟩ (by simp; omega) (by decide) (by omega))
 have HVL := Lib.hid (And.intro (vars_len (isVar ls) p 1) (vars_len_any (isVar ls) p 1 0))
 obtain ⟨y0, y1, y2, y3, y4, y5⟩ := HC1.out W1 (Below.refl _ _)
 clear hx0 hx1 hb0
 go_upto_region 2 with (go_at_call 45; refine FV.out.mono ?_; rintro e w2 ⟨v1, rfl, ho1, hg1⟩; rw [List.nil_append] at ho1; obtain ⟨ao, ac, rfl⟩ := ho1.form; have HO1 := Lib.hid ho1; have HG1 := Lib.hid hg1; clear ho1 hg1)
 have hvl := HVL.out.1
 have hnv := HVL.out.2
 obtain ⟨ns, hns⟩ : ∃ ns, ns = p.vars (isVar ls) 1 := ⟨_, rfl⟩
 rw [← hns] at HO1 HG1 hvl hnv ⊢
 obtain ⟨bsV, hbsV⟩ : ∃ l, l = ns.map vB := ⟨_, rfl⟩
 have hbl : bsV.length = ns.length := by rw [hbsV, List.length_map]
 obtain ⟨m, hm0⟩ : ∃ m, m = ns.length := ⟨_, rfl⟩
 have hm : m = bsV.length := by omega
 rw [← hm0] at ⊢
 rw [← hbsV, ← hm] at HO1 HG1
 have hm8 : m ≤ 8000 := by omega
 have hmn : m = ns.length := by omega
 have hmv : m = nv (isVar ls) p := by unfold nv; omega
 have HB2 := Lib.hid (grw_none HG1.out)
 have hrc0 := OwnPI.rowC (K := W1.heap.size) HO1.out (fun x hx => by
  rcases HG1.out.2 with e | ⟨b, e, h1, _⟩
  ·rw [e] at hx; cases hx
  ·rw [e] at hx; injection hx with hx; omega)
 rw [← hm] at hrc0
 have HRC := Lib.hid hrc0
 have HVB : Hid (∀ (i : Nat) (b : Bd), bsV[i]? = some b → b.rows = []) := by
  intro i b hb
  rw [hbsV, List.getElem?_map] at hb
  cases hq : ns[i]? with
  | none => rw [hq] at hb; cases hb
  | some x => rw [hq] at hb; injection hb with hb; rw [← hb]; rfl
 have HNS := Lib.hid hns
 have HBSV := Lib.hid hbsV
 have HMN := Lib.hid hmn
 have HMV := Lib.hid hmv
 have HML := Lib.hid hm
 clear hns hbsV hmn hmv hm hm0 hbl hvl hnv hrc0 HO1 HG1 FV y0 y1 y2 y3 y4 y5
 go_wp2_with fail
 go_loopw [11, 24] (fun _ iv wr => ∃ (j : Nat) (c : Nat → Nat), j ≤ m ∧ iv = .int .i64 (j : Int) ∧ Below W1.heap.size W1 wr ∧ RowC (FW W1.heap.size wr) (E1 A bsV j wr) wr (.slice ao m ac) m c) (fun _ iv _ => m - (intOf iv).toNat)
 case atStart => exact ⟨0, _, Nat.zero_le _, rfl, HB2.out, HRC.out⟩
 case round =>
  clear HRC HB2
  obtain ⟨j, c, hj, rfl, hbr, hrc⟩ := hrel
  have HBR := Lib.hid hbr
  clear hbr
  by_cases hlt : j < m
  ·have q1 : decide ((j : Int) < (m : Int)) = true := decide_eq_true (by omega)
   obtain ⟨g, cap, cur, cs, hv1, hFg, hg, hnc, hcs, h5, hin, hE⟩ := hrc.get hlt
   simp only [Value.slice.injEq, true_and] at hv1
   obtain ⟨rfl, rfl⟩ := hv1
   obtain ⟨i0, hi0, hz0, hs00, hby0⟩ := info_parts infoP12
   obtain ⟨wm, hrun, hownm, hgm⟩ := run_makeSlice_owned (P := Try.prog) (w := wr) 0 40 60 i0 (.agg ZPB) 12 Try.underlying40 hi0 hz0 hs00 .i64 .i64 ds.length (by omega) (by rw [hby0]; omega) (by unfold maxLen; omega) (Nat.zero_le _)
   have hgs : g < wr.heap.size := (Array.getElem?_eq_some_iff.1 hg).1
   have hgm' : wm.heap[g]? = some (.cells cur 60 (0, 0)) := ((below_none hgm).block _ hgs).trans hg
   have hmc : m * 12 ≤ cur.size := by rw [hcs]; exact Nat.mul_le_mul_right 12 hnc
   obtain ⟨old, e11⟩ : ∃ old, wm.cell? ⟨g, j * 12 + 11, none⟩ = some old := ⟨cur[j * 12 + 11]'(by omega), by rw [Lib.cell_of_heap hgm', Array.getElem?_eq_getElem (by omega)]⟩
   have f11 : wm.frozen? ⟨g, j * 12 + 11, none⟩ = false := frozen_of_row _ _ _ _ _ hgm'
   have hrm := row_made (by omega) hrc hlt hg hFg.1 hmc h5 hin (by obtain ⟨b, hb1, _, hb3⟩ := hE; exact ⟨b, hb1, HVB.out j b hb1, hb3 (Nat.le_refl _)⟩) hownm hgm
   rw [Nat.mul_comm 12 j] at hrm
   have HRM := Lib.hid hrm
   have hbw2 : Below W1.heap.size W1 (wm.setCell ⟨g, j * 12 + 11, none⟩ (.slice (some ⟨wr.heap.size, 0, none⟩) 0 ds.length)) := HBR.out.trans (((below_none hgm).mono (by have := HBR.out.size; omega)).setCell (by have := hFg.1; show W1.heap.size ≤ g; omega) _)
   have HBW2 := Lib.hid hbw2
   clear hrm hbw2 hE hin h5 hcs hnc hg hgm hownm hgm' hFg hrc hi0 hz0 hs00 hby0 hmc
   go_wp2_with fail
   go_roundw
   case rel =>
    obtain ⟨c', h⟩ := HRM.out
    exact ⟨j + 1, c', by omega, by go_num, HBW2.out, h⟩
   case measure => simp [intOf]; omega
  ·obtain rfl : j = m := by omega
   have q1 : decide ((j : Int) < (j : Int)) = false := decide_eq_false (by omega)
   have hall := RowC.all (bs := bsV) (A := A) (K := W1.heap.size) (W := wr) (v := .slice ao j ac) (c := c) (by rw [← HML.out]; exact hrc)
   rw [← HML.out] at hall
   have HALL := Lib.hid hall
   clear hall hrc hlt
   obtain ⟨wo, rfl⟩ : ∃ wo, wo = wr := ⟨_, rfl⟩
   have H20 : Hid (∃ (all : List (List Bd)) (c : Nat → Nat), allR (mRf ls n p) (ds.take 0) = some all ∧ RowC (FW W1.heap.size wo) (EO A (mkRows ns all) wo) wo (.slice ao j ac) j c) := ⟨[], c, by rw [List.take_zero]; rfl, by rw [mkRows_nil, ← HBSV.out]; exact HALL.out⟩
   clear HALL
   go_wp2_with fail
   go_loopw [13, 14, 15, 16, 17, 37] (fun _ _ _ _ _ iv wr => ∃ (kk : Nat), kk ≤ ds.length ∧ iv = .int .i64 (kk : Int) ∧ Below W1.heap.size W1 wr ∧ ∃ (all : List (List Bd)) (c : Nat → Nat), allR (mRf ls n p) (ds.take kk) = some all ∧ RowC (FW W1.heap.size wr) (EO A (mkRows ns all) wr) wr (.slice ao j ac) j c) (fun _ _ _ _ _ iv _ => ds.length - (intOf iv).toNat)
   case atStart => exact ⟨0, Nat.zero_le _, rfl, HBR.out, H20.out⟩
   case round =>
    clear H20 HBR c
    obtain ⟨kk, hkk, rfl, hbr, all, c, hall, hrc⟩ := hrel
    have HBR := Lib.hid hbr
    have HRC := Lib.hid hrc
    have HALL := Lib.hid hall
    clear hbr hrc hall
    obtain ⟨wp, rfl⟩ : ∃ wp, wp = wr := ⟨_, rfl⟩
    have hwp : Below w.heap.size w wp := HB0.out.trans (HBR.out.mono (by omega))
    have hsp := hwp.size
    have hsp1 := HBR.out.size
    have HWP := Lib.hid hwp
    by_cases hlt : kk < ds.length
    ·have q1 : decide ((kk : Int) < (ds.length : Int)) = true := decide_eq_true (by omega)
     obtain ⟨gd, od, k2, t2, mv2, lv2, p2, he, hSd, _, hat2, e0, e1, e2, e3, e4, o5, o6⟩ := (HD.out.keeps (keeps_low (hwp.mono (by omega)))).get kk hlt
     have hdz := HDS.out ds[kk] (List.getElem_mem hlt)
     obtain ⟨dj, hdj⟩ : ∃ d, d = ds[kk] := ⟨_, rfl⟩
     have htk : ds.take (kk + 1) = ds.take kk ++ [dj] := by rw [hdj, List.take_succ_eq_append_getElem hlt]
     have hdr : ds = ds.take kk ++ ([dj] ++ ds.drop (kk + 1)) := by rw [hdj]; simp
     rw [← hdj] at hat2 hdz
     have HAT2 := hat2
     obtain ⟨k2', t2', mo2, mn2, mc2, lo2, ln2, lc2, p2', hfive⟩ := At_slices hat2
     simp only [Array.mk.injEq, List.cons.injEq, Value.int.injEq, Value.string.injEq, true_and, and_true] at hfive
     obtain ⟨rfl, rfl, rfl, rfl, rfl⟩ := hfive
     replace HAT2 := Lib.hid HAT2
     have HTK := Lib.hid htk
     have HDR := Lib.hid hdr
     first | subst he | (simp only [Option.some.injEq, Addr.mk.injEq, and_true] at he; obtain ⟨rfl, rfl⟩ := he)
     have hb9 := (Below.refl wp.heap.size wp).alloc (Nat.le_refl _) (.cells #[.int .i64 k2, .string t2, .slice mo2 mn2 mc2, .slice lo2 ln2 lc2, .int .i64 p2] 29)
     have hx9 := alloc_at wp (.cells #[.int .i64 k2, .string t2, .slice mo2 mn2 mc2, .slice lo2 ln2 lc2, .int .i64 p2] 29)
     have hs9 : (wp.alloc (.cells #[.int .i64 k2, .string t2, .slice mo2 mn2 mc2, .slice lo2 ln2 lc2, .int .i64 p2] 29)).heap.size = wp.heap.size + 1 := by simp
     clear hat2 hdj htk hdr hSd hwp o5 o6
     go_upto_region 10 with fail
     obtain ⟨gb, hgb⟩ : ∃ g, g = wp.heap.size := ⟨_, rfl⟩
     rw [← hgb] at hx9 ⊢
     generalize hW9 : wp.alloc (.cells #[.int .i64 k2, .string t2, .slice mo2 mn2 mc2, .slice lo2 ln2 lc2, .int .i64 p2] 29) = W9 at hb9 hx9 hs9 ⊢
     have hgb9 : gb < W9.heap.size := by omega
     have hpw9 : wp.heap.size ≤ W9.heap.size := by omega
     clear hW9 e0 e1 e2 e3 e4 hgb
     have HB9 := Lib.hid hb9
     have hbk : Below W1.heap.size W1 W9 := HBR.out.trans (hb9.mono (by omega))
     have hbw : Below w.heap.size w W9 := HWP.out.trans (hb9.mono (by omega))
     have FM := Lib.hid (HM.out p dj hsz HPAT.out HWF.out A W9.heap.size bw ls (.slice none 0 0) _ _ [] W9 (by omega) (Nat.le_refl _) (Dt.At.keeps (keeps_low (hbw.mono (by omega))) _ _ HP.out) (Dt.At.keeps (Keeps.of_below hb9) _ _ HAT2.out) (HW.out.below hbw (by omega)) hbwA.out (OwnR.nil _ _ _) (by simp; omega) hdz)
     obtain ⟨y0, y1, y2, y3, y4, y5⟩ := HC1.out W9 hbk
     have z0 : W9.cell? ⟨gb, 0, none⟩ = some (.int .i64 k2) := by rw [Lib.cell_of_heap hx9]; rfl
     have z1 : W9.cell? ⟨gb, 1, none⟩ = some (.string t2) := by rw [Lib.cell_of_heap hx9]; rfl
     have z2 : W9.cell? ⟨gb, 2, none⟩ = some (.slice mo2 mn2 mc2) := by rw [Lib.cell_of_heap hx9]; rfl
     have z3 : W9.cell? ⟨gb, 3, none⟩ = some (.slice lo2 ln2 lc2) := by rw [Lib.cell_of_heap hx9]; rfl
     have z4 : W9.cell? ⟨gb, 4, none⟩ = some (.int .i64 p2) := by rw [Lib.cell_of_heap hx9]; rfl
     have HBK := Lib.hid hbk
     have HBW := Lib.hid hbw
     clear hx9 hb9 hs9 hbk hbw hdz
     go_upto_region 11 with (go_at_call 53; refine FM.out.mono ?_; rintro e w10 ⟨u, bsu, rfl, hou, hgu, hru, hlu⟩; obtain ⟨uo, uc, rfl⟩ := hou.form; have HOU := Lib.hid hou; have HGU := Lib.hid (grw_none hgu); have HRU := Lib.hid hru; clear hou hgu hru hlu)
     clear FM y0 y1 y2 y3 y4 y5 z0 z1 z2 z3 z4
     obtain ⟨res, hres⟩ : ∃ r, r = mRf ls n p dj := ⟨_, rfl⟩
     rw [← hres] at HRU ⊢
     have HRES := Lib.hid hres
     clear hres
     have h10 := HGU.out.size
     cases res with
     | none =>
      rw [show (none : Option (List Bd)).isSome = false from rfl]
      go_wp2_with fail
      refine bodyPost_ret (results_tmp2 rfl _ _ _) rfl ?_
      have hn : allR (mRf ls n p) ds = none := by
       rw [HDR.out, ← List.append_assoc]
       refine allR_none _ _ _ ?_
       rw [allR_snoc, HALL.out, ← HRES.out]
      rw [hn]
      have hend : Below w.heap.size w w10 := HBW.out.trans (HGU.out.mono (by omega))
      exact ⟨_, bs, rfl, HOWN.out.below hend, Grw.of_below hend _, fun r h => (by cases h), by omega⟩
     | some r =>
      rw [show (some r).isSome = true from rfl]
      have hbr : bsu = r := by have := HRU.out r rfl; simpa using this
      subst hbr
      have hrl : bsu.length = j := by rw [HMV.out]; exact mRf_nv ls n p dj bsu HWF.out HPAT.out HRES.out.symm
      rw [hrl] at HOU ⊢
      have hnl : ns.length = j := HMN.out.symm
      have HNL := Lib.hid hnl
      obtain ⟨cu, hinv0⟩ := inv3_start (bs1 := mkRows ns (all ++ [bsu])) (by omega) HRC.out (HB9.out.trans (HGU.out.mono hpw9)) hpw9 h10 HOU.out hrl
      have HI0 := Lib.hid hinv0
      have hbk10 : Below W1.heap.size W1 w10 := HBK.out.trans (HGU.out.mono (by have := HBK.out.size; omega))
      have HBK10 := Lib.hid hbk10
      have hl0 : (mkRows ns all).length = j := by rw [mkRows_length]; exact hnl
      have hl1 : (mkRows ns (all ++ [bsu])).length = j := by rw [mkRows_length]; exact hnl
      have HL01 := Lib.hid (And.intro hl0 hl1)
      have hk9 := HBK.out.size
      clear hinv0 hbk10 hl0 hl1 hnl hrl HRU HB9
      go_wp2_with fail
      go_loopw [16, 17, 53] (fun _ _ iv wr => ∃ (i : Nat), i ≤ j ∧ iv = .int .i64 (i : Int) ∧ Below W1.heap.size W1 wr ∧ w10.heap.size ≤ wr.heap.size ∧ Inv3 A W1.heap.size W9.heap.size w10.heap.size (mkRows ns all) (mkRows ns (all ++ [bsu])) bsu (.slice uo j uc) cu (.slice ao j ac) j i wr) (fun _ _ iv _ => j - (intOf iv).toNat)
      case atStart => exact ⟨0, Nat.zero_le _, rfl, HBK10.out, Nat.le_refl _, HI0.out⟩
      case round =>
       clear HI0 HBK10
       obtain ⟨i, hi, rfl, hbr3, hs3, hinv⟩ := hrel
       have HBR3 := Lib.hid hbr3
       clear hbr3
       by_cases hlt3 : i < j
       ·have q3 : decide ((i : Int) < (j : Int)) = true := decide_eq_true (by omega)
        obtain ⟨g, cap, cur, lvo, lvc, L, xs, gu, capu, curu, bcs, ⟨bb, Gb, hbO⟩, hv1, hKg, hg, hmc, h11, hxs, ⟨bq, hbq, hLq⟩, hlv, hu, hgu, hmu, hb12, hcu, hstep⟩ := inv3_open (by omega) (by omega) h10 hs3 hinv hlt3 HL01.out.1 HL01.out.2 (fun k b c => rows_shape k b c)
        have HSTEP := Lib.hid hstep
        obtain ⟨nk, nt, nmo, nmn, nmc, nlo, nln, nlc, np, qq, dk, dt, dmo, dmn, dmc, dlo, dln, dlc, dp, ro, rn, rc, rfl⟩ := twelve hbO
        simp only [Value.slice.injEq, true_and] at hv1 hu
        obtain ⟨rfl, rfl⟩ := hv1
        obtain ⟨rfl, rfl⟩ := hu
        have hgs : g < wr.heap.size := (Array.getElem?_eq_some_iff.1 hg).1
        have hL : L + 1 ≤ 1000000000 := by
         obtain ⟨hk, e⟩ := List.getElem?_eq_some_iff.1 hbq
         rw [mkRows_get ns all i (by rw [mkRows_length] at hk; exact hk)] at e
         have ha := allR_length _ _ _ HALL.out
         rw [List.length_take] at ha
         have hL2 : all.length = L := by rw [← hLq, ← e]; simp [Bd.rows]
         omega
        have hxl : xs.length = L * 12 := hxs.1
        have b0 : wr.cell? ⟨gu, i * 12, none⟩ = some (.int .i64 nk) := by rw [Lib.cell_of_heap hgu, show i * 12 = 12 * i + 0 by omega, hcu 0 (by decide)]; rfl
        have b1 : wr.cell? ⟨gu, i * 12 + 1, none⟩ = some (.string nt) := by rw [Lib.cell_of_heap hgu, show i * 12 + 1 = 12 * i + 1 by omega, hcu 1 (by decide)]; rfl
        have b2 : wr.cell? ⟨gu, i * 12 + 2, none⟩ = some (.slice nmo nmn nmc) := by rw [Lib.cell_of_heap hgu, show i * 12 + 2 = 12 * i + 2 by omega, hcu 2 (by decide)]; rfl
        have b3 : wr.cell? ⟨gu, i * 12 + 3, none⟩ = some (.slice nlo nln nlc) := by rw [Lib.cell_of_heap hgu, show i * 12 + 3 = 12 * i + 3 by omega, hcu 3 (by decide)]; rfl
        have b4 : wr.cell? ⟨gu, i * 12 + 4, none⟩ = some (.int .i64 np) := by rw [Lib.cell_of_heap hgu, show i * 12 + 4 = 12 * i + 4 by omega, hcu 4 (by decide)]; rfl
        have b5 : wr.cell? ⟨gu, i * 12 + 5, none⟩ = some (.int .i64 qq) := by rw [Lib.cell_of_heap hgu, show i * 12 + 5 = 12 * i + 5 by omega, hcu 5 (by decide)]; rfl
        have b6 : wr.cell? ⟨gu, i * 12 + 6, none⟩ = some (.int .i64 dk) := by rw [Lib.cell_of_heap hgu, show i * 12 + 6 = 12 * i + 6 by omega, hcu 6 (by decide)]; rfl
        have b7 : wr.cell? ⟨gu, i * 12 + 7, none⟩ = some (.string dt) := by rw [Lib.cell_of_heap hgu, show i * 12 + 7 = 12 * i + 7 by omega, hcu 7 (by decide)]; rfl
        have b8 : wr.cell? ⟨gu, i * 12 + 8, none⟩ = some (.slice dmo dmn dmc) := by rw [Lib.cell_of_heap hgu, show i * 12 + 8 = 12 * i + 8 by omega, hcu 8 (by decide)]; rfl
        have b9 : wr.cell? ⟨gu, i * 12 + 9, none⟩ = some (.slice dlo dln dlc) := by rw [Lib.cell_of_heap hgu, show i * 12 + 9 = 12 * i + 9 by omega, hcu 9 (by decide)]; rfl
        have b10 : wr.cell? ⟨gu, i * 12 + 10, none⟩ = some (.int .i64 dp) := by rw [Lib.cell_of_heap hgu, show i * 12 + 10 = 12 * i + 10 by omega, hcu 10 (by decide)]; rfl
        have b11 : wr.cell? ⟨gu, i * 12 + 11, none⟩ = some (.slice ro rn rc) := by rw [Lib.cell_of_heap hgu, show i * 12 + 11 = 12 * i + 11 by omega, hcu 11 (by decide)]; rfl
        obtain ⟨gx, hgx⟩ : ∃ gx, gx = wr.heap.size := ⟨_, rfl⟩
        have hb15 := (Below.refl wr.heap.size wr).alloc (Nat.le_refl _) (.cells #[.int .i64 nk, .string nt, .slice nmo nmn nmc, .slice nlo nln nlc, .int .i64 np, .int .i64 qq, .int .i64 dk, .string dt, .slice dmo dmn dmc, .slice dlo dln dlc, .int .i64 dp, .slice ro rn rc] 60)
        have hx15 := alloc_at wr (.cells #[.int .i64 nk, .string nt, .slice nmo nmn nmc, .slice nlo nln nlc, .int .i64 np, .int .i64 qq, .int .i64 dk, .string dt, .slice dmo dmn dmc, .slice dlo dln dlc, .int .i64 dp, .slice ro rn rc] 60)
        have hs15 : (wr.alloc (.cells #[.int .i64 nk, .string nt, .slice nmo nmn nmc, .slice nlo nln nlc, .int .i64 np, .int .i64 qq, .int .i64 dk, .string dt, .slice dmo dmn dmc, .slice dlo dln dlc, .int .i64 dp, .slice ro rn rc] 60)).heap.size = wr.heap.size + 1 := by simp
        have hg15 : (wr.alloc (.cells #[.int .i64 nk, .string nt, .slice nmo nmn nmc, .slice nlo nln nlc, .int .i64 np, .int .i64 qq, .int .i64 dk, .string dt, .slice dmo dmn dmc, .slice dlo dln dlc, .int .i64 dp, .slice ro rn rc] 60)).heap[g]? = some (.cells cur 60 (0, 0)) := (hb15.block _ hgs).trans hg
        have hxs15 := ownsRow_same (w' := wr.alloc (.cells #[.int .i64 nk, .string nt, .slice nmo nmn nmc, .slice nlo nln nlc, .int .i64 np, .int .i64 qq, .int .i64 dk, .string dt, .slice dmo dmn dmc, .slice dlo dln dlc, .int .i64 dp, .slice ro rn rc] 60)) hxs (fun x hx => hb15.block _ (hlv x hx).2.2)
        clear hcu hbO hb12 hg hgu hmu hstep hinv hxs
        go_upto_region 16 with fail
        rw [← hgx] at hx15 ⊢
        generalize hW15 : wr.alloc (.cells #[.int .i64 nk, .string nt, .slice nmo nmn nmc, .slice nlo nln nlc, .int .i64 np, .int .i64 qq, .int .i64 dk, .string dt, .slice dmo dmn dmc, .slice dlo dln dlc, .int .i64 dp, .slice ro rn rc] 60) = W15 at hb15 hx15 hs15 hg15 hxs15 ⊢
        clear hW15
        have hsx : gx < W15.heap.size := by omega
        have hgg : g < W15.heap.size := by omega
        have hgx1 : wr.heap.size ≤ gx := by omega
        have hwr15 : wr.heap.size ≤ W15.heap.size := by omega
        clear hgx hs15
        have q4 : W15.drew.cell? ⟨g, i * 12 + 11, none⟩ = some (.slice lvo L lvc) := by rw [show i * 12 + 11 = 12 * i + 11 by omega, Lib.cell_of_heap (show W15.drew.heap[g]? = _ from hg15)]; exact h11
        have hxsV : W15.drew.ownsRow 0 60 12 (.slice lvo L lvc) L xs := hxs15
        have hgV : W15.drew.heap[g]? = some (.cells cur 60 (0, 0)) := hg15
        have hbV : Below wr.heap.size wr W15.drew := hb15.drew
        have hsV : W15.drew.heap.size = W15.heap.size := rfl
        refine wp_region_noPanic ?_
        refine wp_region_held_drew (S := fun W => W.heap[gx]? = some (.cells #[.int .i64 nk, .string nt, .slice nmo nmn nmc, .slice nlo nln nlc, .int .i64 np, .int .i64 qq, .int .i64 dk, .string dt, .slice dmo dmn dmc, .slice dlo dln dlc, .int .i64 dp, .slice ro rn rc] 60 (0, 0))) (by kernel_rfl) (show W15.drew.heap[gx]? = some (.cells #[.int .i64 nk, .string nt, .slice nmo nmn nmc, .slice nlo nln nlc, .int .i64 np, .int .i64 qq, .int .i64 dk, .string dt, .slice dmo dmn dmc, .slice dlo dln dlc, .int .i64 dp, .slice ro rn rc] 60 (0, 0)) from hx15) (fun hHeld => ?_)
        generalize W15.drew = V at hHeld q4 hxsV hgV hbV hsV ⊢
        have hA7 := (Below.refl V.heap.size V).alloc (Nat.le_refl _) (.cells #[.int .i64 0, .string ⟨#[]⟩, .slice none 0 0, .slice none 0 0, .int .i64 0, .int .i64 0, .int .i64 0, .string ⟨#[]⟩, .slice none 0 0, .slice none 0 0, .int .i64 0, .slice none 0 0] 60)
        have q4' : (V.alloc (.cells #[.int .i64 0, .string ⟨#[]⟩, .slice none 0 0, .slice none 0 0, .int .i64 0, .int .i64 0, .int .i64 0, .string ⟨#[]⟩, .slice none 0 0, .slice none 0 0, .int .i64 0, .slice none 0 0] 60)).cell? ⟨g, i * 12 + 11, none⟩ = some (.slice lvo L lvc) := (hA7.cell (by show g < V.heap.size; omega)).trans q4
        have hxsA := ownsRow_same (w' := V.alloc (.cells #[.int .i64 0, .string ⟨#[]⟩, .slice none 0 0, .slice none 0 0, .int .i64 0, .int .i64 0, .int .i64 0, .string ⟨#[]⟩, .slice none 0 0, .slice none 0 0, .int .i64 0, .slice none 0 0] 60)) hxsV (fun x hx => hA7.block _ (by have := (hlv x hx).2.2; omega))
        have hgA : (V.alloc (.cells #[.int .i64 0, .string ⟨#[]⟩, .slice none 0 0, .slice none 0 0, .int .i64 0, .int .i64 0, .int .i64 0, .string ⟨#[]⟩, .slice none 0 0, .slice none 0 0, .int .i64 0, .slice none 0 0] 60)).heap[g]? = some (.cells cur 60 (0, 0)) := (hA7.block _ (by omega)).trans hgV
        have hzA := alloc_at V (.cells #[.int .i64 0, .string ⟨#[]⟩, .slice none 0 0, .slice none 0 0, .int .i64 0, .int .i64 0, .int .i64 0, .string ⟨#[]⟩, .slice none 0 0, .slice none 0 0, .int .i64 0, .slice none 0 0] 60)
        have HXA := Lib.hid hxsA
        have HGA := Lib.hid hgA
        have HZA := Lib.hid (show ∀ i u, [.int .i64 0, .string ⟨#[]⟩, .slice none 0 0, .slice none 0 0, .int .i64 0, .int .i64 0, .int .i64 0, .string ⟨#[]⟩, .slice none 0 0, .slice none 0 0, .int .i64 0, .slice none 0 0][i]? = some u → (V.alloc (.cells #[.int .i64 0, .string ⟨#[]⟩, .slice none 0 0, .slice none 0 0, .int .i64 0, .int .i64 0, .int .i64 0, .string ⟨#[]⟩, .slice none 0 0, .slice none 0 0, .int .i64 0, .slice none 0 0] 60)).cell? ⟨V.heap.size, i, none⟩ = some u from fun i u hu => by rw [Lib.cell_of_heap hzA]; simpa using hu)
        have HA7 := Lib.hid hA7
        have HBV := Lib.hid hbV
        have HLV := Lib.hid hlv
        have hxg : gx ≠ g := by omega
        have HSA : Hid ((V.alloc (.cells #[.int .i64 0, .string ⟨#[]⟩, .slice none 0 0, .slice none 0 0, .int .i64 0, .int .i64 0, .int .i64 0, .string ⟨#[]⟩, .slice none 0 0, .slice none 0 0, .int .i64 0, .slice none 0 0] 60)).heap.size = V.heap.size + 1) := by show _ = _; simp
        have hsV1 : W15.heap.size ≤ V.heap.size := by omega
        clear hsV
        clear hx15 hg15 hxs15 hxsV hgV hbV hb15 h11 hlv hzA hA7 hxsA hgA
        refine qts [0, 1, 2, 3, 5] hHeld ?_
        iterate 4 (refine qtc (v := ?_) rfl rfl (fun w' hw' => ?_) ?_; rotate_left; (focus (go_simp; try with_reducible rfl)); simp only [zt,zs,zz,Act.put,zi,zy,zx])
        (refine qtc (v := ?_) rfl rfl (fun w' hw' => ?_) ?_; rotate_left; (focus ((have bx0 : w'.cell? ⟨gx, 0, none⟩ = some (.int .i64 nk) := Lib.cell_of_heap hw' 0; have bx1 : w'.cell? ⟨gx, 1, none⟩ = some (.string nt) := Lib.cell_of_heap hw' 1; have bx2 : w'.cell? ⟨gx, 2, none⟩ = some (.slice nmo nmn nmc) := Lib.cell_of_heap hw' 2; have bx3 : w'.cell? ⟨gx, 3, none⟩ = some (.slice nlo nln nlc) := Lib.cell_of_heap hw' 3; have bx4 : w'.cell? ⟨gx, 4, none⟩ = some (.int .i64 np) := Lib.cell_of_heap hw' 4; have bx5 : w'.cell? ⟨gx, 5, none⟩ = some (.int .i64 qq) := Lib.cell_of_heap hw' 5; have bx6 : w'.cell? ⟨gx, 6, none⟩ = some (.int .i64 dk) := Lib.cell_of_heap hw' 6; have bx7 : w'.cell? ⟨gx, 7, none⟩ = some (.string dt) := Lib.cell_of_heap hw' 7; have bx8 : w'.cell? ⟨gx, 8, none⟩ = some (.slice dmo dmn dmc) := Lib.cell_of_heap hw' 8; have bx9 : w'.cell? ⟨gx, 9, none⟩ = some (.slice dlo dln dlc) := Lib.cell_of_heap hw' 9; have bx10 : w'.cell? ⟨gx, 10, none⟩ = some (.int .i64 dp) := Lib.cell_of_heap hw' 10; have bx11 : w'.cell? ⟨gx, 11, none⟩ = some (.slice ro rn rc) := Lib.cell_of_heap hw' 11; go_simp); try with_reducible rfl)); simp only [zt,zs,zz,Act.put,zi,zy,zx])
        refine qtn ?_
        simp only [zt,zs,zz,Act.put,zi,zy,zx,qzl,qzn,qza,Nat.reduceAdd,Nat.reduceSub]
        refine wpAnyH_ready (rs := [4, 7]) (by kernel_rfl) (by simp) ?_
        refine (AllReadyH.cons rfl (fun K hK => ?_) (AllReadyH.cons rfl (fun K hK => ?_) AllReadyH.nil))
        ·skip
         go_simp
         refine hK.out _ _ hHeld (fun hHeld => ?_)
         clear hK K
         try simp only [zt,zs,zz,Act.put,zi,zy,zx]
         refine qtk (i := 6) (v := ?v5) rfl rfl (fun w' hw' => ?h5) hHeld ?r5
         case h5 => go_simp; try with_reducible rfl
         simp only [zt,zs,zz,Act.put,zi,zy,zx]
         refine wpAnyH_ready (rs := [7]) (by kernel_rfl) (by simp) ?_
         refine (AllReadyH.cons rfl (fun K hK => ?_) AllReadyH.nil)
         go_simp
         have hHeld : (V.alloc (.cells #[.int .i64 0, .string ⟨#[]⟩, .slice none 0 0, .slice none 0 0, .int .i64 0, .int .i64 0, .int .i64 0, .string ⟨#[]⟩, .slice none 0 0, .slice none 0 0, .int .i64 0, .slice none 0 0] 60)).heap[gx]? = some (.cells #[.int .i64 nk, .string nt, .slice nmo nmn nmc, .slice nlo nln nlc, .int .i64 np, .int .i64 qq, .int .i64 dk, .string dt, .slice dmo dmn dmc, .slice dlo dln dlc, .int .i64 dp, .slice ro rn rc] 60 (0, 0)) := (HA7.out.block _ (by omega)).trans hHeld
         refine hK.out _ _ hHeld (fun hHeld => ?_)
         clear hK K
         try simp only [zt,zs,zz,Act.put,zi,zy,zx]
         refine wpAnyH_ready (rs := [8]) (by kernel_rfl) (by simp) ?_
         refine (AllReadyH.cons rfl (fun K hK => ?_) AllReadyH.nil)
         refine wp_appPx (Operand.tmp 62) (Operand.tmp 65) rfl (.slice lvo L lvc) L xs rfl HXA.out V.heap.size 1 rfl [.int .i64 0, .string ⟨#[]⟩, .slice none 0 0, .slice none 0 0, .int .i64 0, .int .i64 0, .int .i64 0, .string ⟨#[]⟩, .slice none 0 0, .slice none 0 0, .int .i64 0, .slice none 0 0] rfl HZA.out (by simp [Value.oneCell']) hL ?_
         intro vn w8 h8 hg8 hv8
         obtain ⟨gn, cn, rfl, hgn⟩ := own_pos h8
         have hgL : ∀ x, (Value.slice lvo L lvc).ownBlock = some x → x < wr.heap.size := fun x hx => (HLV.out x hx).2.2
         have hold8 : ∀ x, x < V.heap.size → (Value.slice lvo L lvc).ownBlock ≠ some x → w8.heap[x]? = V.heap[x]? := fun x hx hne => (hg8.block x (by have := HSA.out; omega) (fun e => hne e.symm)).trans (HA7.out.block x hx)
         have hg9 : w8.heap[g]? = some (.cells cur 60 (0, 0)) := (hg8.block g (by have := HSA.out; omega) (fun e => (HLV.out g e.symm).1 rfl)).trans HGA.out
         have hgne : g ≠ gn := by
          rcases hv8 with e | e
          ·exact fun e2 => (HLV.out gn (e ▸ rfl)).1 e2
          ·simp only [Value.ownBlock, Option.some.injEq] at e; have := HSA.out; omega
         have hgxn : gx ≠ gn := by
          rcases hv8 with e | e
          ·have := hgL gn (e ▸ rfl); omega
          ·simp only [Value.ownBlock, Option.some.injEq] at e; have := HSA.out; omega
         have hHeld : w8.heap[gx]? = some (.cells #[.int .i64 nk, .string nt, .slice nmo nmn nmc, .slice nlo nln nlc, .int .i64 np, .int .i64 qq, .int .i64 dk, .string dt, .slice dmo dmn dmc, .slice dlo dln dlc, .int .i64 dp, .slice ro rn rc] 60 (0, 0)) := (hg8.block gx (by have := HSA.out; omega) (fun e => by have := hgL gx e.symm; omega)).trans hHeld
         have PE1 : PutEnd w8 ((w8.setCells gn (L * 12) [.int .i64 nk, .string nt, .slice nmo nmn nmc, .slice nlo nln nlc, .int .i64 np, .int .i64 qq, .int .i64 dk, .string dt, .slice dmo dmn dmc, .slice dlo dln dlc, .int .i64 dp, .slice ro rn rc]).setCell ⟨g, i * 12 + 11, none⟩ (.slice (some ⟨gn, 0, none⟩) (L + 1) cn)) g gn L i cur (.slice (some ⟨gn, 0, none⟩) (L + 1) cn) (xs ++ [.int .i64 nk, .string nt, .slice nmo nmn nmc, .slice nlo nln nlc, .int .i64 np, .int .i64 qq, .int .i64 dk, .string dt, .slice dmo dmn dmc, .slice dlo dln dlc, .int .i64 dp, .slice ro rn rc]) := by rw [Nat.mul_comm i 12]; exact put_end1 h8 hxl rfl rfl hg9 hgne
         have PE2 : PutEnd w8 ((w8.setCell ⟨g, i * 12 + 11, none⟩ (.slice (some ⟨gn, 0, none⟩) (L + 1) cn)).setCells gn (L * 12) [.int .i64 nk, .string nt, .slice nmo nmn nmc, .slice nlo nln nlc, .int .i64 np, .int .i64 qq, .int .i64 dk, .string dt, .slice dmo dmn dmc, .slice dlo dln dlc, .int .i64 dp, .slice ro rn rc]) g gn L i cur (.slice (some ⟨gn, 0, none⟩) (L + 1) cn) (xs ++ [.int .i64 nk, .string nt, .slice nmo nmn nmc, .slice nlo nln nlc, .int .i64 np, .int .i64 qq, .int .i64 dk, .string dt, .slice dmo dmn dmc, .slice dlo dln dlc, .int .i64 dp, .slice ro rn rc]) := by rw [Nat.mul_comm i 12]; exact put_end2 h8 hxl rfl rfl hg9 hgne
         have hthere := (own_last (bcs := [.int .i64 nk, .string nt, .slice nmo nmn nmc, .slice nlo nln nlc, .int .i64 np, .int .i64 qq, .int .i64 dk, .string dt, .slice dmo dmn dmc, .slice dlo dln dlc, .int .i64 dp, .slice ro rn rc]) h8 hxl rfl rfl).2.2.2.2.2.2
         have REL : ∀ X, PutEnd w8 X g gn L i cur (.slice (some ⟨gn, 0, none⟩) (L + 1) cn) (xs ++ [.int .i64 nk, .string nt, .slice nmo nmn nmc, .slice nlo nln nlc, .int .i64 np, .int .i64 qq, .int .i64 dk, .string dt, .slice dmo dmn dmc, .slice dlo dln dlc, .int .i64 dp, .slice ro rn rc]) → Below W1.heap.size W1 X ∧ w10.heap.size ≤ X.heap.size ∧ Inv3 A W1.heap.size W9.heap.size w10.heap.size (mkRows ns all) (mkRows ns (all ++ [bsu])) bsu (.slice (some ⟨gu, 0, none⟩) j uc) cu (.slice (some ⟨g, 0, none⟩) j ac) j (i + 1) X := by
          intro X pe
          have hvs := HBV.out.size
          have hss := HSA.out
          have hs8 := hg8.size
          have hsx8 := pe.size
          have hsr := HBR3.out.size
          have hgn : ∀ x, x < wr.heap.size → (Value.slice lvo L lvc).ownBlock ≠ some x → x ≠ gn := fun x hx h2 e => by
           subst e
           rcases hv8 with e | e
           ·exact h2 (e ▸ rfl)
           ·simp only [Value.ownBlock, Option.some.injEq] at e; omega
          have hx3 : ∀ x, x < wr.heap.size → x ≠ g → (Value.slice lvo L lvc).ownBlock ≠ some x → X.heap[x]? = wr.heap[x]? := fun x hx h1 h2 => (pe.old x h1 (hgn x hx h2)).trans ((hold8 x (by omega) h2).trans (HBV.out.block x hx))
          refine ⟨⟨pe.os.trans (hg8.os.trans (HA7.out.os.trans (HBV.out.os.trans HBR3.out.os))), pe.tape.trans (hg8.tape.trans (HA7.out.tape.trans (HBV.out.tape.trans HBR3.out.tape))), pe.output.trans (hg8.output.trans (HA7.out.output.trans (HBV.out.output.trans HBR3.out.output))), by omega, fun x hx => (hx3 x (by omega) (by omega) (fun e => by have := (HLV.out x e).2.1; omega)).trans (HBR3.out.block x hx)⟩, by omega, HSTEP.out X _ pe.row pe.new hx3 ?_ (by omega)⟩
          rcases hv8 with e | e
          ·exact .inl e
          ·exact .inr ⟨_, e, by omega⟩
         skip
         have P1 := Lib.hid PE1
         have P2 := Lib.hid PE2
         have HREL := Lib.hid REL
         have HTH := Lib.hid hthere
         have H8 := Lib.hid h8
         obtain ⟨o11, e11⟩ : ∃ o11, w8.cell? ⟨g, i * 12 + 11, none⟩ = some o11 := ⟨cur[i * 12 + 11]'(by omega), by rw [Lib.cell_of_heap hg9, Array.getElem?_eq_getElem (by omega)]⟩
         have f11 : w8.frozen? ⟨g, i * 12 + 11, none⟩ = false := frozen_of_row _ _ _ _ _ hg9
         have e11' : ((w8.setCells gn (L * 12) [.int .i64 nk, .string nt, .slice nmo nmn nmc, .slice nlo nln nlc, .int .i64 np, .int .i64 qq, .int .i64 dk, .string dt, .slice dmo dmn dmc, .slice dlo dln dlc, .int .i64 dp, .slice ro rn rc]).cell? ⟨g, i * 12 + 11, none⟩) = some o11 := (World.cell?_setCells_out gn _ _ _ _ (fun e => absurd e hgne)).trans e11
         have f11' : (w8.setCells gn (L * 12) [.int .i64 nk, .string nt, .slice nmo nmn nmc, .slice nlo nln nlc, .int .i64 np, .int .i64 qq, .int .i64 dk, .string dt, .slice dmo dmn dmc, .slice dlo dln dlc, .int .i64 dp, .slice ro rn rc]).frozen? ⟨g, i * 12 + 11, none⟩ = false := (World.frozen?_setCells gn _ _ _ _).trans f11
         have h8s := ownsRow_same (w' := w8.setCell ⟨g, i * 12 + 11, none⟩ (.slice (some ⟨gn, 0, none⟩) (L + 1) cn)) h8 (fun x e => by simp only [Value.ownBlock, Option.some.injEq] at e; subst e; exact heap_setCell_other _ _ _ _ hgne.symm)
         have HL2 := Lib.hid (own_last (bcs := [.int .i64 nk, .string nt, .slice nmo nmn nmc, .slice nlo nln nlc, .int .i64 np, .int .i64 qq, .int .i64 dk, .string dt, .slice dmo dmn dmc, .slice dlo dln dlc, .int .i64 dp, .slice ro rn rc]) h8s hxl rfl rfl)
         clear h8s
         clear PE1 PE2 REL hthere h8 hg8 hold8 hg9
         have qL : (L : Int) < (L : Int) + 1 := by omega
         refine hK.out _ _ hHeld (fun hHeld => ?_)
         clear hK K
         try simp only [zt,zs,zz,Act.put,zi,zy,zx]
         refine qts [9, 11, 12] hHeld ?_
         (refine qtc (v := ?_) rfl rfl (fun w' hw' => ?_) ?_; rotate_left; (focus ((go_simp; try rw [if_pos qL]); try with_reducible rfl)); simp only [zt,zs,zz,Act.put,zi,zy,zx])
         iterate 2 (refine qtc (v := ?_) rfl rfl (fun w' hw' => ?_) ?_; rotate_left; (focus (go_simp; try with_reducible rfl)); simp only [zt,zs,zz,Act.put,zi,zy,zx])
         refine qtn ?_
         simp only [zt,zs,zz,Act.put,zi,zy,zx,qzl,qzn,qza,Nat.reduceAdd,Nat.reduceSub]
         refine wpAnyH_ready (rs := [10, 13]) (by kernel_rfl) (by simp) ?_
         refine (AllReadyH.cons rfl (fun K hK => ?_) (AllReadyH.cons rfl (fun K hK => ?_) AllReadyH.nil))
         ·skip
          refine wp_store_mid 60 (Operand.tmp 67) (Operand.tmp 63) rfl gn (L * 12) #[.int .i64 nk, .string nt, .slice nmo nmn nmc, .slice nlo nln nlc, .int .i64 np, .int .i64 qq, .int .i64 dk, .string dt, .slice dmo dmn dmc, .slice dlo dln dlc, .int .i64 dp, .slice ro rn rc] rfl rfl HTH.out info60s (by simp [Value.oneCell']) ?_
          have hHeld : (w8.setCells gn (L * 12) [.int .i64 nk, .string nt, .slice nmo nmn nmc, .slice nlo nln nlc, .int .i64 np, .int .i64 qq, .int .i64 dk, .string dt, .slice dmo dmn dmc, .slice dlo dln dlc, .int .i64 dp, .slice ro rn rc]).heap[gx]? = some (.cells #[.int .i64 nk, .string nt, .slice nmo nmn nmc, .slice nlo nln nlc, .int .i64 np, .int .i64 qq, .int .i64 dk, .string dt, .slice dmo dmn dmc, .slice dlo dln dlc, .int .i64 dp, .slice ro rn rc] 60 (0, 0)) := ((own_last (bcs := [.int .i64 nk, .string nt, .slice nmo nmn nmc, .slice nlo nln nlc, .int .i64 np, .int .i64 qq, .int .i64 dk, .string dt, .slice dmo dmn dmc, .slice dlo dln dlc, .int .i64 dp, .slice ro rn rc]) H8.out hxl rfl rfl).2.1 gx hgxn).trans hHeld
          obtain ⟨wz, hwz⟩ : ∃ wz, wz = w8.setCells gn (L * 12) [.int .i64 nk, .string nt, .slice nmo nmn nmc, .slice nlo nln nlc, .int .i64 np, .int .i64 qq, .int .i64 dk, .string dt, .slice dmo dmn dmc, .slice dlo dln dlc, .int .i64 dp, .slice ro rn rc] := ⟨_, rfl⟩
          have hz : w8.setCells gn (L * 12) (#[.int .i64 nk, .string nt, .slice nmo nmn nmc, .slice nlo nln nlc, .int .i64 np, .int .i64 qq, .int .i64 dk, .string dt, .slice dmo dmn dmc, .slice dlo dln dlc, .int .i64 dp, .slice ro rn rc] : Array Value).toList = wz := hwz.symm
          rw [hz]
          rw [← hwz] at hHeld e11' f11' P1
          clear hz hwz P2 HL2
          refine hK.out _ _ hHeld (fun hHeld => ?_)
          clear hK K
          try simp only [zt,zs,zz,Act.put,zi,zy,zx]
          refine wpAnyH_ready (rs := [13]) (by kernel_rfl) (by simp) ?_
          refine (AllReadyH.cons rfl (fun K hK => ?_) AllReadyH.nil)
          go_simp
          refine hK.out _ _ ((heap_setCell_other _ _ _ _ hxg).trans hHeld) (fun hHeld => ?_)
          clear hK K
          try simp only [zt,zs,zz,Act.put,zi,zy,zx]
          refine wpAnyH_done (by kernel_rfl) ?_ _
          refine NoPanic.normal ?_
          clear hHeld
          go_wp2_with fail
          go_roundw
          case rel =>
           first
            | exact ⟨i + 1, by omega, by go_num, (HREL.out _ P1.out).1, (HREL.out _ P1.out).2.1, (HREL.out _ P1.out).2.2⟩
            | exact ⟨i + 1, by omega, by go_num, (HREL.out _ P2.out).1, (HREL.out _ P2.out).2.1, (HREL.out _ P2.out).2.2⟩
          case measure => simp [intOf]; omega
         ·skip
          go_simp
          refine hK.out _ _ ((heap_setCell_other _ _ _ _ hxg).trans hHeld) (fun hHeld => ?_)
          clear hK K
          try simp only [zt,zs,zz,Act.put,zi,zy,zx]
          refine wpAnyH_ready (rs := [10]) (by kernel_rfl) (by simp) ?_
          refine (AllReadyH.cons rfl (fun K hK => ?_) AllReadyH.nil)
          refine wp_store_mid 60 (Operand.tmp 67) (Operand.tmp 63) rfl gn (L * 12) #[.int .i64 nk, .string nt, .slice nmo nmn nmc, .slice nlo nln nlc, .int .i64 np, .int .i64 qq, .int .i64 dk, .string dt, .slice dmo dmn dmc, .slice dlo dln dlc, .int .i64 dp, .slice ro rn rc] rfl rfl HL2.out.2.2.2.2.2.2 info60s (by simp [Value.oneCell']) ?_
          have hHeld : ((w8.setCell ⟨g, i * 12 + 11, none⟩ (.slice (some ⟨gn, 0, none⟩) (L + 1) cn)).setCells gn (L * 12) [.int .i64 nk, .string nt, .slice nmo nmn nmc, .slice nlo nln nlc, .int .i64 np, .int .i64 qq, .int .i64 dk, .string dt, .slice dmo dmn dmc, .slice dlo dln dlc, .int .i64 dp, .slice ro rn rc]).heap[gx]? = some (.cells #[.int .i64 nk, .string nt, .slice nmo nmn nmc, .slice nlo nln nlc, .int .i64 np, .int .i64 qq, .int .i64 dk, .string dt, .slice dmo dmn dmc, .slice dlo dln dlc, .int .i64 dp, .slice ro rn rc] 60 (0, 0)) := (HL2.out.2.1 gx hgxn).trans hHeld
          obtain ⟨wz, hwz⟩ : ∃ wz, wz = (w8.setCell ⟨g, i * 12 + 11, none⟩ (.slice (some ⟨gn, 0, none⟩) (L + 1) cn)).setCells gn (L * 12) [.int .i64 nk, .string nt, .slice nmo nmn nmc, .slice nlo nln nlc, .int .i64 np, .int .i64 qq, .int .i64 dk, .string dt, .slice dmo dmn dmc, .slice dlo dln dlc, .int .i64 dp, .slice ro rn rc] := ⟨_, rfl⟩
          have hz : (w8.setCell ⟨g, i * 12 + 11, none⟩ (.slice (some ⟨gn, 0, none⟩) (L + 1) cn)).setCells gn (L * 12) (#[.int .i64 nk, .string nt, .slice nmo nmn nmc, .slice nlo nln nlc, .int .i64 np, .int .i64 qq, .int .i64 dk, .string dt, .slice dmo dmn dmc, .slice dlo dln dlc, .int .i64 dp, .slice ro rn rc] : Array Value).toList = wz := hwz.symm
          rw [hz]
          rw [← hwz] at hHeld P2
          clear hz hwz P1 HL2
          refine hK.out _ _ hHeld (fun hHeld => ?_)
          clear hK K
          try simp only [zt,zs,zz,Act.put,zi,zy,zx]
          refine wpAnyH_done (by kernel_rfl) ?_ _
          refine NoPanic.normal ?_
          clear hHeld
          go_wp2_with fail
          go_roundw
          case rel =>
           first
            | exact ⟨i + 1, by omega, by go_num, (HREL.out _ P1.out).1, (HREL.out _ P1.out).2.1, (HREL.out _ P1.out).2.2⟩
            | exact ⟨i + 1, by omega, by go_num, (HREL.out _ P2.out).1, (HREL.out _ P2.out).2.1, (HREL.out _ P2.out).2.2⟩
          case measure => simp [intOf]; omega
        ·skip
         go_simp
         have hHeld : (V.alloc (.cells #[.int .i64 0, .string ⟨#[]⟩, .slice none 0 0, .slice none 0 0, .int .i64 0, .int .i64 0, .int .i64 0, .string ⟨#[]⟩, .slice none 0 0, .slice none 0 0, .int .i64 0, .slice none 0 0] 60)).heap[gx]? = some (.cells #[.int .i64 nk, .string nt, .slice nmo nmn nmc, .slice nlo nln nlc, .int .i64 np, .int .i64 qq, .int .i64 dk, .string dt, .slice dmo dmn dmc, .slice dlo dln dlc, .int .i64 dp, .slice ro rn rc] 60 (0, 0)) := (HA7.out.block _ (by omega)).trans hHeld
         refine hK.out _ _ hHeld (fun hHeld => ?_)
         clear hK K
         try simp only [zt,zs,zz,Act.put,zi,zy,zx]
         refine wpAnyH_ready (rs := [4]) (by kernel_rfl) (by simp) ?_
         refine (AllReadyH.cons rfl (fun K hK => ?_) AllReadyH.nil)
         go_simp
         refine hK.out _ _ hHeld (fun hHeld => ?_)
         clear hK K
         try simp only [zt,zs,zz,Act.put,zi,zy,zx]
         refine qtk (i := 6) (v := ?v9) rfl rfl (fun w' hw' => ?h9) hHeld ?r9
         case h9 => go_simp; try with_reducible rfl
         simp only [zt,zs,zz,Act.put,zi,zy,zx]
         refine wpAnyH_ready (rs := [8]) (by kernel_rfl) (by simp) ?_
         refine (AllReadyH.cons rfl (fun K hK => ?_) AllReadyH.nil)
         refine wp_appPx (Operand.tmp 62) (Operand.tmp 65) rfl (.slice lvo L lvc) L xs rfl HXA.out V.heap.size 1 rfl [.int .i64 0, .string ⟨#[]⟩, .slice none 0 0, .slice none 0 0, .int .i64 0, .int .i64 0, .int .i64 0, .string ⟨#[]⟩, .slice none 0 0, .slice none 0 0, .int .i64 0, .slice none 0 0] rfl HZA.out (by simp [Value.oneCell']) hL ?_
         intro vn w8 h8 hg8 hv8
         obtain ⟨gn, cn, rfl, hgn⟩ := own_pos h8
         have hgL : ∀ x, (Value.slice lvo L lvc).ownBlock = some x → x < wr.heap.size := fun x hx => (HLV.out x hx).2.2
         have hold8 : ∀ x, x < V.heap.size → (Value.slice lvo L lvc).ownBlock ≠ some x → w8.heap[x]? = V.heap[x]? := fun x hx hne => (hg8.block x (by have := HSA.out; omega) (fun e => hne e.symm)).trans (HA7.out.block x hx)
         have hg9 : w8.heap[g]? = some (.cells cur 60 (0, 0)) := (hg8.block g (by have := HSA.out; omega) (fun e => (HLV.out g e.symm).1 rfl)).trans HGA.out
         have hgne : g ≠ gn := by
          rcases hv8 with e | e
          ·exact fun e2 => (HLV.out gn (e ▸ rfl)).1 e2
          ·simp only [Value.ownBlock, Option.some.injEq] at e; have := HSA.out; omega
         have hgxn : gx ≠ gn := by
          rcases hv8 with e | e
          ·have := hgL gn (e ▸ rfl); omega
          ·simp only [Value.ownBlock, Option.some.injEq] at e; have := HSA.out; omega
         have hHeld : w8.heap[gx]? = some (.cells #[.int .i64 nk, .string nt, .slice nmo nmn nmc, .slice nlo nln nlc, .int .i64 np, .int .i64 qq, .int .i64 dk, .string dt, .slice dmo dmn dmc, .slice dlo dln dlc, .int .i64 dp, .slice ro rn rc] 60 (0, 0)) := (hg8.block gx (by have := HSA.out; omega) (fun e => by have := hgL gx e.symm; omega)).trans hHeld
         have PE1 : PutEnd w8 ((w8.setCells gn (L * 12) [.int .i64 nk, .string nt, .slice nmo nmn nmc, .slice nlo nln nlc, .int .i64 np, .int .i64 qq, .int .i64 dk, .string dt, .slice dmo dmn dmc, .slice dlo dln dlc, .int .i64 dp, .slice ro rn rc]).setCell ⟨g, i * 12 + 11, none⟩ (.slice (some ⟨gn, 0, none⟩) (L + 1) cn)) g gn L i cur (.slice (some ⟨gn, 0, none⟩) (L + 1) cn) (xs ++ [.int .i64 nk, .string nt, .slice nmo nmn nmc, .slice nlo nln nlc, .int .i64 np, .int .i64 qq, .int .i64 dk, .string dt, .slice dmo dmn dmc, .slice dlo dln dlc, .int .i64 dp, .slice ro rn rc]) := by rw [Nat.mul_comm i 12]; exact put_end1 h8 hxl rfl rfl hg9 hgne
         have PE2 : PutEnd w8 ((w8.setCell ⟨g, i * 12 + 11, none⟩ (.slice (some ⟨gn, 0, none⟩) (L + 1) cn)).setCells gn (L * 12) [.int .i64 nk, .string nt, .slice nmo nmn nmc, .slice nlo nln nlc, .int .i64 np, .int .i64 qq, .int .i64 dk, .string dt, .slice dmo dmn dmc, .slice dlo dln dlc, .int .i64 dp, .slice ro rn rc]) g gn L i cur (.slice (some ⟨gn, 0, none⟩) (L + 1) cn) (xs ++ [.int .i64 nk, .string nt, .slice nmo nmn nmc, .slice nlo nln nlc, .int .i64 np, .int .i64 qq, .int .i64 dk, .string dt, .slice dmo dmn dmc, .slice dlo dln dlc, .int .i64 dp, .slice ro rn rc]) := by rw [Nat.mul_comm i 12]; exact put_end2 h8 hxl rfl rfl hg9 hgne
         have hthere := (own_last (bcs := [.int .i64 nk, .string nt, .slice nmo nmn nmc, .slice nlo nln nlc, .int .i64 np, .int .i64 qq, .int .i64 dk, .string dt, .slice dmo dmn dmc, .slice dlo dln dlc, .int .i64 dp, .slice ro rn rc]) h8 hxl rfl rfl).2.2.2.2.2.2
         have REL : ∀ X, PutEnd w8 X g gn L i cur (.slice (some ⟨gn, 0, none⟩) (L + 1) cn) (xs ++ [.int .i64 nk, .string nt, .slice nmo nmn nmc, .slice nlo nln nlc, .int .i64 np, .int .i64 qq, .int .i64 dk, .string dt, .slice dmo dmn dmc, .slice dlo dln dlc, .int .i64 dp, .slice ro rn rc]) → Below W1.heap.size W1 X ∧ w10.heap.size ≤ X.heap.size ∧ Inv3 A W1.heap.size W9.heap.size w10.heap.size (mkRows ns all) (mkRows ns (all ++ [bsu])) bsu (.slice (some ⟨gu, 0, none⟩) j uc) cu (.slice (some ⟨g, 0, none⟩) j ac) j (i + 1) X := by
          intro X pe
          have hvs := HBV.out.size
          have hss := HSA.out
          have hs8 := hg8.size
          have hsx8 := pe.size
          have hsr := HBR3.out.size
          have hgn : ∀ x, x < wr.heap.size → (Value.slice lvo L lvc).ownBlock ≠ some x → x ≠ gn := fun x hx h2 e => by
           subst e
           rcases hv8 with e | e
           ·exact h2 (e ▸ rfl)
           ·simp only [Value.ownBlock, Option.some.injEq] at e; omega
          have hx3 : ∀ x, x < wr.heap.size → x ≠ g → (Value.slice lvo L lvc).ownBlock ≠ some x → X.heap[x]? = wr.heap[x]? := fun x hx h1 h2 => (pe.old x h1 (hgn x hx h2)).trans ((hold8 x (by omega) h2).trans (HBV.out.block x hx))
          refine ⟨⟨pe.os.trans (hg8.os.trans (HA7.out.os.trans (HBV.out.os.trans HBR3.out.os))), pe.tape.trans (hg8.tape.trans (HA7.out.tape.trans (HBV.out.tape.trans HBR3.out.tape))), pe.output.trans (hg8.output.trans (HA7.out.output.trans (HBV.out.output.trans HBR3.out.output))), by omega, fun x hx => (hx3 x (by omega) (by omega) (fun e => by have := (HLV.out x e).2.1; omega)).trans (HBR3.out.block x hx)⟩, by omega, HSTEP.out X _ pe.row pe.new hx3 ?_ (by omega)⟩
          rcases hv8 with e | e
          ·exact .inl e
          ·exact .inr ⟨_, e, by omega⟩
         skip
         have P1 := Lib.hid PE1
         have P2 := Lib.hid PE2
         have HREL := Lib.hid REL
         have HTH := Lib.hid hthere
         have H8 := Lib.hid h8
         obtain ⟨o11, e11⟩ : ∃ o11, w8.cell? ⟨g, i * 12 + 11, none⟩ = some o11 := ⟨cur[i * 12 + 11]'(by omega), by rw [Lib.cell_of_heap hg9, Array.getElem?_eq_getElem (by omega)]⟩
         have f11 : w8.frozen? ⟨g, i * 12 + 11, none⟩ = false := frozen_of_row _ _ _ _ _ hg9
         have e11' : ((w8.setCells gn (L * 12) [.int .i64 nk, .string nt, .slice nmo nmn nmc, .slice nlo nln nlc, .int .i64 np, .int .i64 qq, .int .i64 dk, .string dt, .slice dmo dmn dmc, .slice dlo dln dlc, .int .i64 dp, .slice ro rn rc]).cell? ⟨g, i * 12 + 11, none⟩) = some o11 := (World.cell?_setCells_out gn _ _ _ _ (fun e => absurd e hgne)).trans e11
         have f11' : (w8.setCells gn (L * 12) [.int .i64 nk, .string nt, .slice nmo nmn nmc, .slice nlo nln nlc, .int .i64 np, .int .i64 qq, .int .i64 dk, .string dt, .slice dmo dmn dmc, .slice dlo dln dlc, .int .i64 dp, .slice ro rn rc]).frozen? ⟨g, i * 12 + 11, none⟩ = false := (World.frozen?_setCells gn _ _ _ _).trans f11
         have h8s := ownsRow_same (w' := w8.setCell ⟨g, i * 12 + 11, none⟩ (.slice (some ⟨gn, 0, none⟩) (L + 1) cn)) h8 (fun x e => by simp only [Value.ownBlock, Option.some.injEq] at e; subst e; exact heap_setCell_other _ _ _ _ hgne.symm)
         have HL2 := Lib.hid (own_last (bcs := [.int .i64 nk, .string nt, .slice nmo nmn nmc, .slice nlo nln nlc, .int .i64 np, .int .i64 qq, .int .i64 dk, .string dt, .slice dmo dmn dmc, .slice dlo dln dlc, .int .i64 dp, .slice ro rn rc]) h8s hxl rfl rfl)
         clear h8s
         clear PE1 PE2 REL hthere h8 hg8 hold8 hg9
         have qL : (L : Int) < (L : Int) + 1 := by omega
         refine hK.out _ _ hHeld (fun hHeld => ?_)
         clear hK K
         try simp only [zt,zs,zz,Act.put,zi,zy,zx]
         refine qts [9, 11, 12] hHeld ?_
         (refine qtc (v := ?_) rfl rfl (fun w' hw' => ?_) ?_; rotate_left; (focus ((go_simp; try rw [if_pos qL]); try with_reducible rfl)); simp only [zt,zs,zz,Act.put,zi,zy,zx])
         iterate 2 (refine qtc (v := ?_) rfl rfl (fun w' hw' => ?_) ?_; rotate_left; (focus (go_simp; try with_reducible rfl)); simp only [zt,zs,zz,Act.put,zi,zy,zx])
         refine qtn ?_
         simp only [zt,zs,zz,Act.put,zi,zy,zx,qzl,qzn,qza,Nat.reduceAdd,Nat.reduceSub]
         refine wpAnyH_ready (rs := [10, 13]) (by kernel_rfl) (by simp) ?_
         refine (AllReadyH.cons rfl (fun K hK => ?_) (AllReadyH.cons rfl (fun K hK => ?_) AllReadyH.nil))
         ·skip
          refine wp_store_mid 60 (Operand.tmp 67) (Operand.tmp 63) rfl gn (L * 12) #[.int .i64 nk, .string nt, .slice nmo nmn nmc, .slice nlo nln nlc, .int .i64 np, .int .i64 qq, .int .i64 dk, .string dt, .slice dmo dmn dmc, .slice dlo dln dlc, .int .i64 dp, .slice ro rn rc] rfl rfl HTH.out info60s (by simp [Value.oneCell']) ?_
          have hHeld : (w8.setCells gn (L * 12) [.int .i64 nk, .string nt, .slice nmo nmn nmc, .slice nlo nln nlc, .int .i64 np, .int .i64 qq, .int .i64 dk, .string dt, .slice dmo dmn dmc, .slice dlo dln dlc, .int .i64 dp, .slice ro rn rc]).heap[gx]? = some (.cells #[.int .i64 nk, .string nt, .slice nmo nmn nmc, .slice nlo nln nlc, .int .i64 np, .int .i64 qq, .int .i64 dk, .string dt, .slice dmo dmn dmc, .slice dlo dln dlc, .int .i64 dp, .slice ro rn rc] 60 (0, 0)) := ((own_last (bcs := [.int .i64 nk, .string nt, .slice nmo nmn nmc, .slice nlo nln nlc, .int .i64 np, .int .i64 qq, .int .i64 dk, .string dt, .slice dmo dmn dmc, .slice dlo dln dlc, .int .i64 dp, .slice ro rn rc]) H8.out hxl rfl rfl).2.1 gx hgxn).trans hHeld
          obtain ⟨wz, hwz⟩ : ∃ wz, wz = w8.setCells gn (L * 12) [.int .i64 nk, .string nt, .slice nmo nmn nmc, .slice nlo nln nlc, .int .i64 np, .int .i64 qq, .int .i64 dk, .string dt, .slice dmo dmn dmc, .slice dlo dln dlc, .int .i64 dp, .slice ro rn rc] := ⟨_, rfl⟩
          have hz : w8.setCells gn (L * 12) (#[.int .i64 nk, .string nt, .slice nmo nmn nmc, .slice nlo nln nlc, .int .i64 np, .int .i64 qq, .int .i64 dk, .string dt, .slice dmo dmn dmc, .slice dlo dln dlc, .int .i64 dp, .slice ro rn rc] : Array Value).toList = wz := hwz.symm
          rw [hz]
          rw [← hwz] at hHeld e11' f11' P1
          clear hz hwz P2 HL2
          refine hK.out _ _ hHeld (fun hHeld => ?_)
          clear hK K
          try simp only [zt,zs,zz,Act.put,zi,zy,zx]
          refine wpAnyH_ready (rs := [13]) (by kernel_rfl) (by simp) ?_
          refine (AllReadyH.cons rfl (fun K hK => ?_) AllReadyH.nil)
          go_simp
          refine hK.out _ _ ((heap_setCell_other _ _ _ _ hxg).trans hHeld) (fun hHeld => ?_)
          clear hK K
          try simp only [zt,zs,zz,Act.put,zi,zy,zx]
          refine wpAnyH_done (by kernel_rfl) ?_ _
          refine NoPanic.normal ?_
          clear hHeld
          go_wp2_with fail
          go_roundw
          case rel =>
           first
            | exact ⟨i + 1, by omega, by go_num, (HREL.out _ P1.out).1, (HREL.out _ P1.out).2.1, (HREL.out _ P1.out).2.2⟩
            | exact ⟨i + 1, by omega, by go_num, (HREL.out _ P2.out).1, (HREL.out _ P2.out).2.1, (HREL.out _ P2.out).2.2⟩
          case measure => simp [intOf]; omega
         ·skip
          go_simp
          refine hK.out _ _ ((heap_setCell_other _ _ _ _ hxg).trans hHeld) (fun hHeld => ?_)
          clear hK K
          try simp only [zt,zs,zz,Act.put,zi,zy,zx]
          refine wpAnyH_ready (rs := [10]) (by kernel_rfl) (by simp) ?_
          refine (AllReadyH.cons rfl (fun K hK => ?_) AllReadyH.nil)
          refine wp_store_mid 60 (Operand.tmp 67) (Operand.tmp 63) rfl gn (L * 12) #[.int .i64 nk, .string nt, .slice nmo nmn nmc, .slice nlo nln nlc, .int .i64 np, .int .i64 qq, .int .i64 dk, .string dt, .slice dmo dmn dmc, .slice dlo dln dlc, .int .i64 dp, .slice ro rn rc] rfl rfl HL2.out.2.2.2.2.2.2 info60s (by simp [Value.oneCell']) ?_
          have hHeld : ((w8.setCell ⟨g, i * 12 + 11, none⟩ (.slice (some ⟨gn, 0, none⟩) (L + 1) cn)).setCells gn (L * 12) [.int .i64 nk, .string nt, .slice nmo nmn nmc, .slice nlo nln nlc, .int .i64 np, .int .i64 qq, .int .i64 dk, .string dt, .slice dmo dmn dmc, .slice dlo dln dlc, .int .i64 dp, .slice ro rn rc]).heap[gx]? = some (.cells #[.int .i64 nk, .string nt, .slice nmo nmn nmc, .slice nlo nln nlc, .int .i64 np, .int .i64 qq, .int .i64 dk, .string dt, .slice dmo dmn dmc, .slice dlo dln dlc, .int .i64 dp, .slice ro rn rc] 60 (0, 0)) := (HL2.out.2.1 gx hgxn).trans hHeld
          obtain ⟨wz, hwz⟩ : ∃ wz, wz = (w8.setCell ⟨g, i * 12 + 11, none⟩ (.slice (some ⟨gn, 0, none⟩) (L + 1) cn)).setCells gn (L * 12) [.int .i64 nk, .string nt, .slice nmo nmn nmc, .slice nlo nln nlc, .int .i64 np, .int .i64 qq, .int .i64 dk, .string dt, .slice dmo dmn dmc, .slice dlo dln dlc, .int .i64 dp, .slice ro rn rc] := ⟨_, rfl⟩
          have hz : (w8.setCell ⟨g, i * 12 + 11, none⟩ (.slice (some ⟨gn, 0, none⟩) (L + 1) cn)).setCells gn (L * 12) (#[.int .i64 nk, .string nt, .slice nmo nmn nmc, .slice nlo nln nlc, .int .i64 np, .int .i64 qq, .int .i64 dk, .string dt, .slice dmo dmn dmc, .slice dlo dln dlc, .int .i64 dp, .slice ro rn rc] : Array Value).toList = wz := hwz.symm
          rw [hz]
          rw [← hwz] at hHeld P2
          clear hz hwz P1 HL2
          refine hK.out _ _ hHeld (fun hHeld => ?_)
          clear hK K
          try simp only [zt,zs,zz,Act.put,zi,zy,zx]
          refine wpAnyH_done (by kernel_rfl) ?_ _
          refine NoPanic.normal ?_
          clear hHeld
          go_wp2_with fail
          go_roundw
          case rel =>
           first
            | exact ⟨i + 1, by omega, by go_num, (HREL.out _ P1.out).1, (HREL.out _ P1.out).2.1, (HREL.out _ P1.out).2.2⟩
            | exact ⟨i + 1, by omega, by go_num, (HREL.out _ P2.out).1, (HREL.out _ P2.out).2.1, (HREL.out _ P2.out).2.2⟩
          case measure => simp [intOf]; omega
       ·obtain rfl : i = j := by omega
        have q3 : decide ((i : Int) < (i : Int)) = false := decide_eq_false (by omega)
        obtain ⟨c', hc'⟩ := inv3_end hinv HL01.out.1 HL01.out.2
        have HC' := Lib.hid hc'
        clear hc' hinv
        go_wp2_with fail
        go_roundw
        case rel => exact ⟨kk + 1, by omega, by go_num, HBR3.out, all ++ [bsu], c', by rw [HTK.out, allR_snoc, HALL.out, ← HRES.out], HC'.out⟩
        case measure => simp [intOf]; omega
    ·obtain rfl : kk = ds.length := by omega
     have q1 : decide ((ds.length : Int) < (ds.length : Int)) = false := decide_eq_false (by omega)
     have hall := HALL.out
     rw [List.take_length] at hall
     have hrl : (mkRows ns all).length = j := by rw [mkRows_length]; exact HMN.out.symm
     have hrn : RowN (fun g => g < A) (FW W1.heap.size wp) wp (.slice ao j ac) (mkRows ns all) := by rw [RowN_C, hrl]; exact ⟨c, HRC.out⟩
     have how : RowN (fun g => g < A) (fun x => B ≤ x ∧ x < w.heap.size) wp (.slice vo nb vc) bs := RowN.below (RowN.bound HOWN.out) hwp
     have hxs := how
     have hys := hrn
     obtain ⟨xs, _, hxs, _⟩ := hxs
     obtain ⟨ys, _, hys, _⟩ := hys
     have h1 := hrn.one hys
     have hjn : ∀ v' w9, w9.ownsRow 0 60 12 v' (bs.length + (mkRows ns all).length) (xs ++ ys) → wp.grownBy w9 (Value.slice vo nb vc).ownBlock → (v'.ownBlock = (Value.slice vo nb vc).ownBlock ∨ (∃ b, v'.ownBlock = some b ∧ wp.heap.size ≤ b)) →
       OwnR A B w9 v' (bs ++ mkRows ns all) ∧ Grw w w9 (.slice vo nb vc) v' := by
      intro v' w9 h9 hg hv
      have hvB := HOWN.out.low
      refine ⟨(RowN.join how hrn (fun x h1 h2 => by have := h1.2; have := h2.1; omega) hxs hys h9 (KeepsB.of_grown hg (fun g hs e => by have := (hvB g e.symm).1; have : g < A := hs; omega)) (fun x hx hne => hg.block x hx (fun e => hne e.symm)) hv).mono (fun _ h => h) ?_, ⟨⟨hg.os.trans hwp.os, hg.tape.trans hwp.tape, hg.output.trans hwp.output, Nat.le_trans hwp.size hg.size, fun k hk hne => (hg.block k (by omega) hne).trans (hwp.block k hk)⟩, ?_⟩⟩
      ·rintro x (h | h | h)
       ·exact h.1
       ·have := h.1; show B ≤ x; omega
       ·rcases hv with e | ⟨b, e, hb⟩
        ·exact (hvB x (e ▸ h)).1
        ·rw [e] at h; injection h with h; show B ≤ x; omega
      ·rcases hv with e | ⟨b, e, hb⟩
       ·exact .inl e
       ·exact .inr ⟨b, e, by omega, (h9.lt b e).2⟩
     rw [hrl] at hys
     rw [← HNB.out] at hxs
     rw [← HNB.out, hrl] at hjn
     have hnp : ns.length ≤ p.size := by rw [HNS.out]; exact HVL.out.1
     have HX := Lib.hid hxs
     have HY := Lib.hid hys
     have H1 := Lib.hid h1
     have HJN := Lib.hid hjn
     have HAL := Lib.hid hall
     have hnb := HNB.out
     have hn9 : nb + j ≤ 1000000000 := by omega
     clear hxs hys h1 hjn hall hrn how hrl hwp hnb
     go_wp2_with (refine wpList_appPM rfl (Operand.tmp 72) (Operand.tmp 73) rfl (.slice vo nb vc) (.slice ao j ac) nb j xs ys rfl rfl HX.out HY.out H1.out hn9 ?_; intro v9 w9 h9 hg9 hv9; have HE := Lib.hid (HJN.out v9 w9 h9 hg9 hv9); clear h9 hg9 hv9)
     refine bodyPost_ret (results_tmp2 rfl _ _ _) rfl ?_
     exact ⟨v9, bs ++ mkRows ns all, by rw [HAL.out]; rfl, HE.out.1, HE.out.2, fun r h => (by rw [HAL.out] at h; injection h with h; rw [← h, ← HNS.out]), by rw [List.length_append, mkRows_length]; omega⟩
end Go.Proofs.Ytecljchifebljaa
