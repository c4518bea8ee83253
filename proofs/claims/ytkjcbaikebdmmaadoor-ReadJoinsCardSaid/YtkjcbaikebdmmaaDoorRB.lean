/- The walk of ReadBack. -/
import Derived.Test.YtkjcbaikebdmmaaDoorC4t
import Derived.Test.YtkjcbaikebdmmaaDoorRD2
namespace Go.Proofs.YtkjcbaikebdmmaaDoor
open Go.RowKit Go.BigM
set_option linter.unusedVariables false
set_option linter.unusedSimpArgs false
theorem rd_back (l : List Rw) (hd : Rw.dps l ≤ 21) : ∃ n, rd (Dt.txte (Rw.makes l)) n .next 0 ⟨0, false, []⟩ [] = some (.ok (Dt.plcs 0 (Rw.makes l))) :=
  rd_wrs (wrs_plce _ 0 (makes_rdb l)) (by rw [plcs_dep]; have := makes_dep l; omega)
set_option maxHeartbeats 8000000 in
set_option maxRecDepth 100000 in
theorem back_walk (l : List Rw) (ao : Option Addr) (ac : Nat) (w : World) (hR : RsAt w ao l) : Calls Tryd.prog 4 #[.slice ao l.length ac] w (RetBool true w) := by
  have BB := Lib.hid (Below.refl w.heap.size w)
  have HR := Lib.hid hR
  clear hR
  go_enter Tryd.func4, Tryd.ntmps4
  go_wp2_with (go_at_call 13; refine (known_any _).mono ?_; rintro e w1 ⟨rfl, hb⟩; replace BB := Lib.hid (BB.out.trans (hb.mono BB.out.size)); clear hb)
  refine (few_any l ao ac _ (HR.out.below BB.out)).mono ?_
  rintro e w2 ⟨r, rfl, hr, rfl⟩
  cases r with
  | false =>
    go_wp2_with fail
    go_ret
    exact ⟨rfl, BB.out⟩
  | true =>
    obtain ⟨hc, hdp⟩ := hr rfl
    have hll := length_cnts l
    have FA := Lib.hid (all_any l (by omega) ao ac w1 (HR.out.below BB.out))
    go_wp2_with fail
    refine FA.out.mono ?_
    rintro e w4 ⟨v4, rfl, hown, hb4⟩
    have hat := hown.at
    obtain ⟨o4, c4, rfl⟩ := hat.form
    have hsz := makes_size l
    have htx := makes_txte l
    replace BB := Lib.hid (BB.out.trans (hb4.mono BB.out.size))
    obtain ⟨ds, hds⟩ : ∃ ds, ds = Rw.makes l := ⟨_, rfl⟩
    have hrb := rd_back l hdp
    have hsm := Dt.sims.plcs (Rw.makes l) 0
    rw [← hds] at hat hsz htx hrb hsm
    rw [← hds]
    have HL := Lib.hid hat
    have HSM := Lib.hid hsm
    have HRB := Lib.hid hrb
    have hss : Dt.sizes ds ≤ 60 := by omega
    have htt : (Dt.txte ds).length ≤ 2460 := by omega
    have hln := length_sizes ds
    clear hds hat hown hb4 hsz htx FA hdp hsm hrb hr
    go_wp2_with fail
    go_loopw [4, 5] (fun sv iv wr => TeInv ds w4 sv iv wr) (fun _ iv _ => ds.length - (intOf iv).toNat)
    case atStart => exact ⟨0, Nat.zero_le _, rfl, by simp [Dt.txte], Below.refl _ _⟩
    case round =>
      obtain ⟨j, hj, rfl, rfl, hb⟩ := hrel
      have G2 := Lib.hid hb
      have G3 := Lib.hid (HL.out.keeps (Keeps.of_below hb))
      clear hb
      obtain ⟨X, hX⟩ : ∃ X : ByteArray, X = ⟨(Dt.txte (ds.take j)).toArray⟩ := ⟨_, rfl⟩
      have hle := txte_take_le ds j
      have hxs : X.size = (Dt.txte (ds.take j)).length := by rw [hX, Lib.size_eq]
      rw [← hX]
      have HX := Lib.hid hX
      clear hX
      by_cases hlt : j < ds.length
      · have q1 : decide ((j : Int) < (ds.length : Int)) = true := decide_eq_true (by omega)
        obtain ⟨g, o, k', t', mv', lv', p', rfl, hS, -, hat, e0, e1, e2, e3, e4, o1, o2⟩ := G3.out.get j hlt
        have hsj := size_get ds j hlt
        have htk := txte_take ds j hlt
        have hl3 := txte_take_le ds (j + 1)
        rw [htk] at hl3
        simp only [List.length_append, List.length_cons, List.length_nil] at hl3
        have HC0 := reftext_any 1000000 (Nat.le_refl _) ds[j] (by omega) (by omega) _ _ wr hat
        obtain ⟨tx, htx⟩ : ∃ tx : ByteArray, tx = ⟨ds[j].txt.toArray⟩ := ⟨_, rfl⟩
        have htl : tx.size = ds[j].txt.length := by rw [htx]; simp only [ByteArray.size, List.size_toArray]
        rw [← htx] at HC0
        have HC := Lib.hid HC0
        have hb1 : X.size + tx.size + 1 ≤ 5000 := by omega
        have hb2 : tx.size ≤ 5000 := by omega
        have hb3 : X.size ≤ 5000 := by omega
        have HN := Lib.hid (fun (w5 : World) (hb4 : Below wr.heap.size wr w5) => show TeInv ds w4 (.string (X ++ tx ++ ⟨#[32]⟩)) (.int .i64 ((j : Int) + 1)) w5 from
          ⟨j + 1, by omega, by go_num, by rw [HX.out, htx, str_app (Dt.txte (ds.take j)) ds[j].txt, str_app1, htk]; simp, G2.out.trans (hb4.mono G2.out.size)⟩)
        clear hat hS HC0 htx htl hle hl3 hxs htk hsj
        go_wp2_with fail
        refine HC.out.mono ?_
        rintro e w5 ⟨rfl, hb4⟩
        have HN4 := Lib.hid (HN.out w5 hb4)
        clear hb4 e0 e1 e2 e3 e4
        go_wp2_with fail
        go_roundw
        case rel => exact HN4.out
        case measure => simp [intOf]; omega
      · obtain rfl : j = ds.length := by omega
        have q1 : decide ((ds.length : Int) < (ds.length : Int)) = false := decide_eq_false (by omega)
        have hXl : X.data.toList = Dt.txte ds := by rw [HX.out, List.take_length]
        have hXs : X.size ≤ 8000 := by omega
        obtain ⟨n, hn⟩ := HRB.out
        have FR := Lib.hid (read_any X wr hXs n _ (by rw [hXl]; exact hn))
        replace BB := Lib.hid (BB.out.trans (G2.out.mono BB.out.size))
        clear hXl hXs hn hle hxs HX HL G2
        go_wp2_with fail
        refine FR.out.mono ?_
        rintro e w6 ⟨hb6, v, rfl, hv⟩
        replace BB := Lib.hid (BB.out.trans (hb6.mono BB.out.size))
        have HL6 := Lib.hid (G3.out.keeps (Keeps.of_below hb6))
        have HV6 := Lib.hid hv
        obtain ⟨o6, c6, rfl⟩ := hv.form
        have hpl := plcs_length ds 0
        have HPL := Lib.hid hpl
        simp only [hpl]
        clear hb6 hv FR G3 hpl
        go_wp2_with fail
        go_loopw [9] (fun iv wr => PlInv ds.length w6 iv wr) (fun iv _ => ds.length - (intOf iv).toNat)
        case atStart => exact ⟨0, Nat.zero_le _, rfl, Below.refl _ _⟩
        case round =>
          obtain ⟨j, hj, rfl, hbw⟩ := hrel
          have HB := Lib.hid hbw
          have hsr := hbw.size
          clear hbw
          by_cases hlt : j < ds.length
          · have q1 : decide ((j : Int) < (ds.length : Int)) = true := decide_eq_true (by omega)
            have hlp : j < (Dt.plcs 0 ds).length := by rw [HPL.out]; exact hlt
            have hv := HV6.out
            rw [HPL.out] at hv
            obtain ⟨g, o, k5, t5, mv5, lv5, p5, rfl, hS, -, hat, e0, e1, e2, e3, e4, o5, o7⟩ := (hv.keeps (Keeps.of_below HB.out)).get j hlp
            obtain ⟨g2, o2', k6, t6, mv6, lv6, p6, rfl, hS2, -, hat2, f0, f1, f2, f3, f4, o8, o9⟩ := (HL6.out.keeps (Keeps.of_below HB.out)).get j hlt
            have hg : g < wr.heap.size := World.block_lt_of_cell? wr _ e0
            have hg2 : g2 < wr.heap.size := World.block_lt_of_cell? wr _ f0
            have hsj := size_get ds j hlt
            have hsa : ((Dt.plcs 0 ds)[j]).same ds[j] = true := Dt.sim.same _ _ (Dt.sim.symm _ _ (Dt.sims.get HSM.out j hlt hlp))
            have hsz1 := same_size _ _ hsa
            have HX' := refsame_any 1000000 (by decide) (Dt.plcs 0 ds)[j] ds[j] (by omega) _ _ _ _ wr.drew (Dt.At.keeps (Keeps.of_below (Below.refl _ _).drew) _ _ hat) (Dt.At.keeps (Keeps.of_below (Below.refl _ _).drew) _ _ hat2)
            rw [hsa] at HX'
            have HX := Lib.hid HX'
            have E0 := Lib.hid e0
            have E1 := Lib.hid e1
            have E2 := Lib.hid e2
            have E3 := Lib.hid e3
            have E4 := Lib.hid e4
            have F0 := Lib.hid f0
            have F1 := Lib.hid f1
            have F2 := Lib.hid f2
            have F3 := Lib.hid f3
            have F4 := Lib.hid f4
            clear HX' hat hat2 hS hS2 e0 e1 e2 e3 e4 f0 f1 f2 f3 f4 hv hsa hsz1 hsj
            go_upto_region 17 with fail
            clear q1
            refine wp_region_noPanic ?_
            refine wp_region_held_drew (S := Below wr.heap.size wr) (by kernel_rfl) ((Below.refl _ _).drew) (fun hHeld => ?_)
            refine wpAnyH_take (i := 0) (v := Value.slice (some ⟨g, o, none⟩) ds.length c6) rfl (by kernel_rfl) (by kernel_rfl) (by kernel_rfl) (fun _ _ _ h => h) (Or.inl ⟨rfl, fun w' hw' => ?_⟩) hHeld ?_
            · go_simp
            simp only [List.getElem_toArray, List.getElem_cons_succ, List.getElem_cons_zero, Act.put, List.setIfInBounds_toArray, List.set_cons_zero, List.set_cons_succ]
            refine wpAnyH_take (i := 1) (v := Value.int .i64 j) rfl (by kernel_rfl) (by kernel_rfl) (by kernel_rfl) (fun _ _ _ h => h) (Or.inl ⟨rfl, fun w' hw' => ?_⟩) hHeld ?_
            · go_simp
            simp only [List.getElem_toArray, List.getElem_cons_succ, List.getElem_cons_zero, Act.put, List.setIfInBounds_toArray, List.set_cons_zero, List.set_cons_succ]
            refine wpAnyH_take (i := 2) (v := Value.pointer (some ⟨g, o + j * 5, none⟩)) rfl (by kernel_rfl) (by kernel_rfl) (by kernel_rfl) (fun _ _ _ h => h) (Or.inl ⟨rfl, fun w' hw' => ?_⟩) hHeld ?_
            · go_simp
            simp only [List.getElem_toArray, List.getElem_cons_succ, List.getElem_cons_zero, Act.put, List.setIfInBounds_toArray, List.set_cons_zero, List.set_cons_succ]
            refine wpAnyH_take (i := 3) (v := Value.agg #[.int .i64 k5, .string t5, mv5, lv5, .int .i64 p5]) rfl (by kernel_rfl) (by kernel_rfl) (by kernel_rfl) (fun _ _ _ h => h) (Or.inl ⟨rfl, fun w' hw' => ?_⟩) hHeld ?_
            · have qE0 := (hw'.cell (p := ⟨g, o + j * 5, none⟩) (by show g < wr.heap.size; omega)).trans E0.out; have qE1 := (hw'.cell (p := ⟨g, o + j * 5 + 1, none⟩) (by show g < wr.heap.size; omega)).trans E1.out; have qE2 := (hw'.cell (p := ⟨g, o + j * 5 + 2, none⟩) (by show g < wr.heap.size; omega)).trans E2.out; have qE3 := (hw'.cell (p := ⟨g, o + j * 5 + 3, none⟩) (by show g < wr.heap.size; omega)).trans E3.out; have qE4 := (hw'.cell (p := ⟨g, o + j * 5 + 4, none⟩) (by show g < wr.heap.size; omega)).trans E4.out; go_simp
            simp only [List.getElem_toArray, List.getElem_cons_succ, List.getElem_cons_zero, Act.put, List.setIfInBounds_toArray, List.set_cons_zero, List.set_cons_succ]
            refine wpAnyH_take (i := 4) (v := Value.slice (some ⟨g2, o2', none⟩) ds.length c4) rfl (by kernel_rfl) (by kernel_rfl) (by kernel_rfl) (fun _ _ _ h => h) (Or.inl ⟨rfl, fun w' hw' => ?_⟩) hHeld ?_
            · go_simp
            simp only [List.getElem_toArray, List.getElem_cons_succ, List.getElem_cons_zero, Act.put, List.setIfInBounds_toArray, List.set_cons_zero, List.set_cons_succ]
            refine wpAnyH_take (i := 5) (v := Value.int .i64 j) rfl (by kernel_rfl) (by kernel_rfl) (by kernel_rfl) (fun _ _ _ h => h) (Or.inl ⟨rfl, fun w' hw' => ?_⟩) hHeld ?_
            · go_simp
            simp only [List.getElem_toArray, List.getElem_cons_succ, List.getElem_cons_zero, Act.put, List.setIfInBounds_toArray, List.set_cons_zero, List.set_cons_succ]
            refine wpAnyH_take (i := 6) (v := Value.pointer (some ⟨g2, o2' + j * 5, none⟩)) rfl (by kernel_rfl) (by kernel_rfl) (by kernel_rfl) (fun _ _ _ h => h) (Or.inl ⟨rfl, fun w' hw' => ?_⟩) hHeld ?_
            · go_simp
            simp only [List.getElem_toArray, List.getElem_cons_succ, List.getElem_cons_zero, Act.put, List.setIfInBounds_toArray, List.set_cons_zero, List.set_cons_succ]
            refine wpAnyH_take (i := 7) (v := Value.agg #[.int .i64 k6, .string t6, mv6, lv6, .int .i64 p6]) rfl (by kernel_rfl) (by kernel_rfl) (by kernel_rfl) (fun _ _ _ h => h) (Or.inl ⟨rfl, fun w' hw' => ?_⟩) hHeld ?_
            · have qF0 := (hw'.cell (p := ⟨g2, o2' + j * 5, none⟩) (by show g2 < wr.heap.size; omega)).trans F0.out; have qF1 := (hw'.cell (p := ⟨g2, o2' + j * 5 + 1, none⟩) (by show g2 < wr.heap.size; omega)).trans F1.out; have qF2 := (hw'.cell (p := ⟨g2, o2' + j * 5 + 2, none⟩) (by show g2 < wr.heap.size; omega)).trans F2.out; have qF3 := (hw'.cell (p := ⟨g2, o2' + j * 5 + 3, none⟩) (by show g2 < wr.heap.size; omega)).trans F3.out; have qF4 := (hw'.cell (p := ⟨g2, o2' + j * 5 + 4, none⟩) (by show g2 < wr.heap.size; omega)).trans F4.out; go_simp
            simp only [List.getElem_toArray, List.getElem_cons_succ, List.getElem_cons_zero, Act.put, List.setIfInBounds_toArray, List.set_cons_zero, List.set_cons_succ]
            refine wpAnyH_ready (rs := [8]) (by kernel_rfl) (by simp) ?_
            refine (AllReadyH.cons rfl (fun K hK => ?_) AllReadyH.nil)
            go_simp
            refine HX.out.mono ?_
            rintro e w7 ⟨rfl, hb⟩
            have hS7 : Below wr.heap.size wr w7 := (Below.refl wr.heap.size wr).drew.trans hb
            have HS7 := Lib.hid hS7
            refine hK.out _ _ hS7 (fun hHeld => ?_)
            clear hK K hb hS7
            try simp only [List.getElem_toArray, List.getElem_cons_succ, List.getElem_cons_zero, Act.put, List.setIfInBounds_toArray, List.set_cons_zero, List.set_cons_succ]
            refine wpAnyH_take (i := 9) (v := Value.bool false) rfl (by kernel_rfl) (by kernel_rfl) (by kernel_rfl) (fun _ _ _ h => h) (Or.inl ⟨rfl, fun w' hw' => ?_⟩) hHeld ?_
            · go_simp
            simp only [List.getElem_toArray, List.getElem_cons_succ, List.getElem_cons_zero, Act.put, List.setIfInBounds_toArray, List.set_cons_zero, List.set_cons_succ]
            refine wpAnyH_done (by kernel_rfl) ?_ _
            refine NoPanic.normal ?_
            clear hHeld
            have HN := Lib.hid (HB.out.trans (HS7.out.mono HB.out.size))
            go_wp2_with fail
            go_roundw
            case rel => exact ⟨j + 1, by omega, by go_num, HN.out⟩
            case measure => simp [intOf]; omega
          · obtain rfl : j = ds.length := by omega
            have q1 : decide ((ds.length : Int) < (ds.length : Int)) = false := decide_eq_false (by omega)
            go_wp2_with fail
            go_ret
            exact ⟨rfl, BB.out.trans (HB.out.mono BB.out.size)⟩
end Go.Proofs.YtkjcbaikebdmmaaDoor
