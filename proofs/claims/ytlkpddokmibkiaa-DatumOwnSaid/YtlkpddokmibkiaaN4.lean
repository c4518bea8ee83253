/- The walk of DatumPlain. -/
import Derived.Test.YtlkpddokmibkiaaN3
namespace Go.Proofs.Ytlkpddokmibkiaa
open Go.RowKit
set_option linter.unusedVariables false
set_option linter.unusedSimpArgs false

theorem list_at2 {S : Nat → Prop} {w : World} {v : Value} {ds : List Dt} (h : LAt S w v ds) : Dt.At S w (.mk 4 ⟨#[]⟩ [] ds 0) #[.int .i64 4, .string ⟨#[]⟩, .slice none 0 0, v, .int .i64 0] := by
  rw [At_mk]; exact ⟨_, _, rfl, .inl ⟨rfl, rfl⟩, h⟩

set_option maxHeartbeats 4000000 in
theorem plain_walk (l : List Rw) (ao : Option Addr) (ac : Nat) (bo : Option Addr) (bl bc : Nat) (zs : List Int) (w : World) (hR : RsAt w ao l) (hN : IsRow .i64 w bo bl bc zs) :
    Calls Try.prog 5 #[.slice ao l.length ac, .slice bo bl bc] w fun e w' => e = .returned (.bool true) ∧ Below w.heap.size w w' := by
  have HR := Lib.hid hR
  have HN := Lib.hid hN
  clear hR hN
  go_enter Try.func5, Try.ntmps5
  go_wp2_with fail
  refine (known_any _).mono ?_
  rintro e w0 ⟨rfl, hb0⟩
  have B0 := Lib.hid hb0
  have R0 := Lib.hid (HR.out.below hb0)
  clear hb0
  go_wp2_with fail
  refine (few_any l ao ac w0 R0.out).mono ?_
  rintro e w' ⟨r, rfl, hfew, rfl⟩
  cases r with
  | false =>
    clear hfew
    go_wp2
    go_ret
    exact ⟨rfl, B0.out⟩
  | true =>
    have hc := hfew rfl
    clear hfew
    have HC := Lib.hid hc
    clear hc
    go_wp2_with fail
    have hbc : Below w0.heap.size w0 (w0.alloc (.cells #[.int .i64 0] 3)) := (Below.refl _ _).alloc (Nat.le_refl _) _
    have g0 := alloc_at w0 (.cells #[.int .i64 0] 3)
    have hsc : (w0.alloc (.cells #[.int .i64 0] 3)).heap.size = w0.heap.size + 1 := by simp
    generalize w0.alloc (.cells #[.int .i64 0] 3) = WC at hbc g0 hsc ⊢
    refine (all_any l (by have := HC.out; omega) ao ac WC (R0.out.below hbc)).mono ?_
    rintro e w1 ⟨dv, rfl, hown, hb1⟩
    have g1 : w1.heap[w0.heap.size]? = some (.cells #[.int .i64 0] 3 (0, 0)) := by rw [hb1.block _ (by omega)]; exact g0
    have hb01 : Below w0.heap.size w0 w1 := hbc.trans (hb1.mono (by omega))
    have sg1 := ((Sg.of_row HN.out (g := w0.heap.size) B0.out.size).but (But.of B0.out)).but (But.of hb01)
    obtain ⟨dao, dcap, rfl⟩ := hown.at.form
    obtain ⟨dn, hdn⟩ : ∃ dn, dn = (Rw.makes l).length := ⟨_, rfl⟩
    rw [← hdn] at hown ⊢
    clear hdn
    obtain ⟨d, hd⟩ : ∃ d, d = Dt.mk 4 ⟨#[]⟩ [] (Rw.makes l) 0 := ⟨_, rfl⟩
    have zs1 : d.size ≤ 61 := by have := makes_size l; have := HC.out; rw [hd]; simp only [Dt.size]; omega
    have zt1 : d.txt.length ≤ 2470 := by
      have h1 := makes_txt l
      have := HC.out
      have h2 := txts_txtr (Rw.makes l)
      rw [hd]; simp only [Dt.txt, if_true, List.length_cons, List.length_append, List.length_nil]; omega
    have hat := list_at2 hown.at
    rw [← hd] at hat
    have hat' : Dt.At (fun b => b ≠ w0.heap.size) w1 d #[.int .i64 4, .string ⟨#[]⟩, .slice none 0 0, .slice dao dn dcap, .int .i64 0] := Dt.At.mono (fun b (hb : WC.heap.size ≤ b) => by omega) _ _ hat
    have F0 := Lib.hid (mark_any 1000000 (Nat.le_refl _) d (by omega) (zs.take bl) w0.heap.size 0 _ bo bl bc w1 hat' sg1 g1 (by omega))
    have o1 := hown.at.one
    have ZS := Lib.hid zs1
    have ZT := Lib.hid zt1
    have B1 := Lib.hid (B0.out.trans (hb01.mono B0.out.size))
    have G01 := Lib.hid hb01
    clear hown hb1 hd hat hat' sg1 g1 hb01 g0 hbc zs1 zt1
    go_wp2_with fail
    refine F0.out.mono ?_
    rintro e w2 ⟨ca, rfl, hat, hb2, -⟩
    obtain ⟨ka, ta, mva, lva, pa, rfl, o3, o4⟩ := At_form hat
    have za : (d.mark (zs.take bl) 0).size ≤ 61 := by rw [mark_size]; exact ZS.out
    have zta : (d.mark (zs.take bl) 0).txt.length ≤ 2470 := by rw [mark_txt]; exact ZT.out
    generalize d.mark (zs.take bl) 0 = da at hat za zta
    have hb02 : Below w0.heap.size w0 w2 := by
      have h1 := G01.out
      exact ⟨hb2.os.trans h1.os, hb2.tape.trans h1.tape, hb2.output.trans h1.output, Nat.le_trans h1.size hb2.size, fun k hk => (hb2.block k (by have := h1.size; omega) (by omega)).trans (h1.block k hk)⟩
    have B2 := Lib.hid (B0.out.trans (hb02.mono B0.out.size))
    clear F0 hb2 hb02 ZS ZT G01
    have z1 : (#[.int .i64 ka, .string ta, mva, lva, .int .i64 pa] : Array Value).all (·.oneCell') = true := by simp [Value.oneCell'] at o3 o4 ⊢; exact ⟨o3, o4⟩
    go_upto_region 7 with (refine wpList_store_row rfl 28 _ _ rfl w2.heap.size #[.int .i64 ka, .string ta, mva, lva, .int .i64 pa] rfl rfl 28 Z5 (alloc_at _ _) info28 rfl z1 ?_)
    simp only [Act.put]
    have E0 : (w2.alloc (.cells #[.int .i64 0, .string ⟨#[]⟩, .slice none 0 0, .slice none 0 0, .int .i64 0] 28)).setRow w2.heap.size #[.int .i64 ka, .string ta, mva, lva, .int .i64 pa] = w2.alloc (.cells #[.int .i64 ka, .string ta, mva, lva, .int .i64 pa] 28) := setRow_new _ _ _ _
    rw [E0]
    clear E0
    have h3 := alloc_at w2 (.cells #[.int .i64 ka, .string ta, mva, lva, .int .i64 pa] 28)
    have b3 : Below w2.heap.size w2 (w2.alloc (.cells #[.int .i64 ka, .string ta, mva, lva, .int .i64 pa] 28)) := (Below.refl _ _).alloc (Nat.le_refl _) _
    have at3 := Dt.At.keeps (Keeps.of_below b3) _ _ hat
    have s3 : (w2.alloc (.cells #[.int .i64 ka, .string ta, mva, lva, .int .i64 pa] 28)).heap.size = w2.heap.size + 1 := by simp
    generalize w2.alloc (.cells #[.int .i64 ka, .string ta, mva, lva, .int .i64 pa] 28) = W3 at h3 b3 at3 s3 ⊢
    have B3 := Lib.hid (B2.out.trans (b3.mono B2.out.size))
    have FP := Lib.hid (plain_any 1000000 (Nat.le_refl _) da (by omega) _ _ W3 at3)
    have H3 := Lib.hid h3
    have AT3 := Lib.hid at3
    clear h3 b3 at3 hat z1 B2
    go_wp2_with (refine wpList_load_row rfl 28 _ rfl w2.heap.size rfl 28 #[.int .i64 ka, .string ta, mva, lva, .int .i64 pa] (0, 0) _ H3.out Try.underlying28 rfl info28 ?_)
    refine FP.out.mono ?_
    rintro e w4 ⟨cp, rfl, hat4, hb4⟩
    obtain ⟨kp, tp, mvp, lvp, pp, rfl, o5, o6⟩ := At_form hat4
    have z1 : (#[.int .i64 kp, .string tp, mvp, lvp, .int .i64 pp] : Array Value).all (·.oneCell') = true := by simp [Value.oneCell'] at o5 o6 ⊢; exact ⟨o5, o6⟩
    have zp : da.plain.size ≤ 61 := by rw [plain_size]; exact za
    have ztp : da.plain.txt.length ≤ 2470 := by rw [plain_txt]; exact zta
    obtain ⟨dp, hdp⟩ : ∃ dp, dp = da.plain := ⟨_, rfl⟩
    have tpa : dp.txt = da.txt := by rw [hdp, plain_txt]
    have spa : dp.size = da.size := by rw [hdp, plain_size]
    have ppa : dp.plain = dp := by rw [hdp, plain_plain]
    have bpa : dp.bare = true := by rw [hdp, plain_bare]
    rw [← hdp] at hat4 zp ztp
    clear hdp
    go_upto_region 8 with (refine wpList_store_row rfl 28 _ _ rfl w4.heap.size #[.int .i64 kp, .string tp, mvp, lvp, .int .i64 pp] rfl rfl 28 Z5 (alloc_at _ _) info28 rfl z1 ?_)
    simp only [Act.put]
    have E0 : (w4.alloc (.cells #[.int .i64 0, .string ⟨#[]⟩, .slice none 0 0, .slice none 0 0, .int .i64 0] 28)).setRow w4.heap.size #[.int .i64 kp, .string tp, mvp, lvp, .int .i64 pp] = w4.alloc (.cells #[.int .i64 kp, .string tp, mvp, lvp, .int .i64 pp] 28) := setRow_new _ _ _ _
    rw [E0]
    clear E0
    have h5 := alloc_at w4 (.cells #[.int .i64 kp, .string tp, mvp, lvp, .int .i64 pp] 28)
    have b5 : Below w4.heap.size w4 (w4.alloc (.cells #[.int .i64 kp, .string tp, mvp, lvp, .int .i64 pp] 28)) := (Below.refl _ _).alloc (Nat.le_refl _) _
    have at5 := Dt.At.keeps (Keeps.of_below b5) _ _ hat4
    have at5a := Dt.At.keeps (Keeps.of_below b5) _ _ (Dt.At.keeps (Keeps.of_below hb4) _ _ AT3.out)
    have h5a := Below.row b5 (Below.row hb4 H3.out)
    generalize w4.alloc (.cells #[.int .i64 kp, .string tp, mvp, lvp, .int .i64 pp] 28) = W5 at h5 b5 at5 at5a h5a ⊢
    have B5 := Lib.hid (B3.out.trans ((hb4.trans (b5.mono hb4.size)).mono B3.out.size))
    have HPB := Lib.hid h5
    have HAB := Lib.hid h5a
    obtain ⟨W3a, hW3a⟩ : ∃ x, x = w2.heap.size := ⟨_, rfl⟩
    obtain ⟨W5p, hW5p⟩ : ∃ x, x = w4.heap.size := ⟨_, rfl⟩
    rw [← hW3a] at HAB ⊢
    rw [← hW5p] at HPB ⊢
    obtain ⟨TD, hTD⟩ : ∃ TD : ByteArray, TD = ⟨dp.txt.toArray⟩ := ⟨_, rfl⟩
    have htd : TD.size ≤ 2470 := by rw [hTD]; simp only [ByteArray.size, List.size_toArray]; omega
    obtain ⟨dz, hdz⟩ : ∃ dz, dz = dp.size := ⟨_, rfl⟩
    have F1 := Lib.hid (part_text at5 (by omega) (by omega) TD hTD)
    have F2 := Lib.hid (part_text at5a (by omega) (by omega) TD (by rw [hTD, tpa]))
    have F3' := part_size at5 (by omega)
    rw [← hdz] at F3'
    have F4' := part_size at5a (by omega)
    rw [← spa, ← hdz] at F4'
    have F3 := Lib.hid F3'
    have F4 := Lib.hid F4'
    have AT5 := Lib.hid at5
    have F6 : Hid (∀ w', Below W5.heap.size W5 w' → Calls Try.prog 15 #[.agg #[.int .i64 kp, .string tp, mvp, lvp, .int .i64 pp]] w' (RetMk dp w')) := by
      intro w' hb
      have := plain_any 1000000 (by decide) dp (by omega) _ _ w' (Dt.At.keeps (Keeps.of_below hb) _ _ AT5.out)
      rw [ppa] at this
      exact this
    have F7 : Hid (∀ (S : Nat → Prop) (cs : Array Value) w', Below W5.heap.size W5 w' → Dt.At S w' dp cs → Calls Try.prog 19 #[.agg cs, .agg #[.int .i64 kp, .string tp, mvp, lvp, .int .i64 pp]] w' (RetBool true w')) := by
      intro S cs w' hb hc
      have := same_any 1000000 (by decide) dp dp (by omega) _ _ _ _ w' hc (Dt.At.keeps (Keeps.of_below hb) _ _ AT5.out)
      rw [same_refl] at this
      exact this
    have F8 : Hid (∀ w', Below W5.heap.size W5 w' → Calls Try.prog 28 #[.agg #[.int .i64 kp, .string tp, mvp, lvp, .int .i64 pp]] w' (RetBool true w')) := by
      intro w' hb
      have := bare_any 1000000 (by decide) dp (by omega) _ _ w' (Dt.At.keeps (Keeps.of_below hb) _ _ AT5.out)
      rw [bpa] at this
      exact this
    clear hW3a hW5p F3' F4' hTD hdz tpa spa ppa bpa at5 at5a h5 h5a b5 hb4 hat4 za zta zp ztp hsc
    refine wp_region_noPanic ?_
    refine wp_region_held_drew (S := Below W5.heap.size W5) (by kernel_rfl) ((Below.refl _ _).drew) (fun hHeld => ?_)
    refine wpAnyH_take (i := 0) rfl (by kernel_rfl) (by kernel_rfl) (by kernel_rfl) (fun _ _ _ h => h) (yieldsIf_load_mid (by rfl) _ _ rfl W5p 0 rfl [.int .i64 kp, .string tp, mvp, lvp, .int .i64 pp] _ (fun w' hw' => row_range (Below.row hw' HPB.out)) Try.underlying28 rfl info28) hHeld ?_
    simp only [List.getElem_toArray, List.getElem_cons_succ, List.getElem_cons_zero, Act.put, List.setIfInBounds_toArray, List.set_cons_zero, List.set_cons_succ]
    refine wpAnyH_take (i := 2) rfl (by kernel_rfl) (by kernel_rfl) (by kernel_rfl) (fun _ _ _ h => h) (yieldsIf_load_mid (by rfl) _ _ rfl W3a 0 rfl [.int .i64 ka, .string ta, mva, lva, .int .i64 pa] _ (fun w' hw' => row_range (Below.row hw' HAB.out)) Try.underlying28 rfl info28) hHeld ?_
    simp only [List.getElem_toArray, List.getElem_cons_succ, List.getElem_cons_zero, Act.put, List.setIfInBounds_toArray, List.set_cons_zero, List.set_cons_succ]
    refine wpAnyH_ready (rs := [1]) (by kernel_rfl) (by simp) ?_
    refine (AllReadyH.cons rfl (fun K hK => ?_) AllReadyH.nil)
    go_simp
    refine (F1.out _ hHeld).mono ?_
    rintro e w5 ⟨rfl, hb⟩
    have hS := Below.trans hHeld (hb.mono hHeld.size)
    refine hK.out _ _ hS (fun hHeld => ?_)
    clear hK K hb hS
    try simp only [List.getElem_toArray, List.getElem_cons_succ, List.getElem_cons_zero, Act.put, List.setIfInBounds_toArray, List.set_cons_zero, List.set_cons_succ]
    refine wpAnyH_ready (rs := [3]) (by kernel_rfl) (by simp) ?_
    refine (AllReadyH.cons rfl (fun K hK => ?_) AllReadyH.nil)
    go_simp
    refine (F2.out _ hHeld).mono ?_
    rintro e w5 ⟨rfl, hb⟩
    have hS := Below.trans hHeld (hb.mono hHeld.size)
    refine hK.out _ _ hS (fun hHeld => ?_)
    clear hK K hb hS
    try simp only [List.getElem_toArray, List.getElem_cons_succ, List.getElem_cons_zero, Act.put, List.setIfInBounds_toArray, List.set_cons_zero, List.set_cons_succ]
    refine wpAnyH_take (i := 4) (v := Value.bool true) rfl (by kernel_rfl) (by kernel_rfl) (by kernel_rfl) (fun _ _ _ h => h) (Or.inl ⟨rfl, fun w' hw' => ?_⟩) hHeld ?_
    · go_simp
    simp only [List.getElem_toArray, List.getElem_cons_succ, List.getElem_cons_zero, Act.put, List.setIfInBounds_toArray, List.set_cons_zero, List.set_cons_succ]
    refine wpAnyH_take (i := 5) (v := Value.bool true) rfl (by kernel_rfl) (by kernel_rfl) (by kernel_rfl) (fun _ _ _ h => h) (Or.inl ⟨rfl, fun w' hw' => ?_⟩) hHeld ?_
    · go_simp
    simp only [List.getElem_toArray, List.getElem_cons_succ, List.getElem_cons_zero, Act.put, List.setIfInBounds_toArray, List.set_cons_zero, List.set_cons_succ]
    refine wpAnyH_take (i := 6) rfl (by kernel_rfl) (by kernel_rfl) (by kernel_rfl) (fun _ _ _ h => h) (yieldsIf_load_mid (by rfl) _ _ rfl W5p 0 rfl [.int .i64 kp, .string tp, mvp, lvp, .int .i64 pp] _ (fun w' hw' => row_range (Below.row hw' HPB.out)) Try.underlying28 rfl info28) hHeld ?_
    simp only [List.getElem_toArray, List.getElem_cons_succ, List.getElem_cons_zero, Act.put, List.setIfInBounds_toArray, List.set_cons_zero, List.set_cons_succ]
    refine wpAnyH_take (i := 8) rfl (by kernel_rfl) (by kernel_rfl) (by kernel_rfl) (fun _ _ _ h => h) (yieldsIf_load_mid (by rfl) _ _ rfl W3a 0 rfl [.int .i64 ka, .string ta, mva, lva, .int .i64 pa] _ (fun w' hw' => row_range (Below.row hw' HAB.out)) Try.underlying28 rfl info28) hHeld ?_
    simp only [List.getElem_toArray, List.getElem_cons_succ, List.getElem_cons_zero, Act.put, List.setIfInBounds_toArray, List.set_cons_zero, List.set_cons_succ]
    refine wpAnyH_ready (rs := [7]) (by kernel_rfl) (by simp) ?_
    refine (AllReadyH.cons rfl (fun K hK => ?_) AllReadyH.nil)
    go_simp
    refine (F3.out _ hHeld).mono ?_
    rintro e w5 ⟨rfl, hb⟩
    have hS := Below.trans hHeld (hb.mono hHeld.size)
    refine hK.out _ _ hS (fun hHeld => ?_)
    clear hK K hb hS
    try simp only [List.getElem_toArray, List.getElem_cons_succ, List.getElem_cons_zero, Act.put, List.setIfInBounds_toArray, List.set_cons_zero, List.set_cons_succ]
    refine wpAnyH_ready (rs := [9]) (by kernel_rfl) (by simp) ?_
    refine (AllReadyH.cons rfl (fun K hK => ?_) AllReadyH.nil)
    go_simp
    refine (F4.out _ hHeld).mono ?_
    rintro e w5 ⟨rfl, hb⟩
    have hS := Below.trans hHeld (hb.mono hHeld.size)
    refine hK.out _ _ hS (fun hHeld => ?_)
    clear hK K hb hS
    try simp only [List.getElem_toArray, List.getElem_cons_succ, List.getElem_cons_zero, Act.put, List.setIfInBounds_toArray, List.set_cons_zero, List.set_cons_succ]
    refine wpAnyH_take (i := 10) (v := Value.bool true) rfl (by kernel_rfl) (by kernel_rfl) (by kernel_rfl) (fun _ _ _ h => h) (Or.inl ⟨rfl, fun w' hw' => ?_⟩) hHeld ?_
    · go_simp
    simp only [List.getElem_toArray, List.getElem_cons_succ, List.getElem_cons_zero, Act.put, List.setIfInBounds_toArray, List.set_cons_zero, List.set_cons_succ]
    refine wpAnyH_take (i := 11) (v := Value.bool true) rfl (by kernel_rfl) (by kernel_rfl) (by kernel_rfl) (fun _ _ _ h => h) (Or.inl ⟨rfl, fun w' hw' => ?_⟩) hHeld ?_
    · go_simp
    simp only [List.getElem_toArray, List.getElem_cons_succ, List.getElem_cons_zero, Act.put, List.setIfInBounds_toArray, List.set_cons_zero, List.set_cons_succ]
    refine wpAnyH_take (i := 12) (v := Value.bool true) rfl (by kernel_rfl) (by kernel_rfl) (by kernel_rfl) (fun _ _ _ h => h) (Or.inl ⟨rfl, fun w' hw' => ?_⟩) hHeld ?_
    · go_simp
    simp only [List.getElem_toArray, List.getElem_cons_succ, List.getElem_cons_zero, Act.put, List.setIfInBounds_toArray, List.set_cons_zero, List.set_cons_succ]
    refine wpAnyH_take (i := 13) rfl (by kernel_rfl) (by kernel_rfl) (by kernel_rfl) (fun _ _ _ h => h) (yieldsIf_load_mid (by rfl) _ _ rfl W5p 0 rfl [.int .i64 kp, .string tp, mvp, lvp, .int .i64 pp] _ (fun w' hw' => row_range (Below.row hw' HPB.out)) Try.underlying28 rfl info28) hHeld ?_
    simp only [List.getElem_toArray, List.getElem_cons_succ, List.getElem_cons_zero, Act.put, List.setIfInBounds_toArray, List.set_cons_zero, List.set_cons_succ]
    refine wpAnyH_take (i := 15) rfl (by kernel_rfl) (by kernel_rfl) (by kernel_rfl) (fun _ _ _ h => h) (yieldsIf_load_mid (by rfl) _ _ rfl W5p 0 rfl [.int .i64 kp, .string tp, mvp, lvp, .int .i64 pp] _ (fun w' hw' => row_range (Below.row hw' HPB.out)) Try.underlying28 rfl info28) hHeld ?_
    simp only [List.getElem_toArray, List.getElem_cons_succ, List.getElem_cons_zero, Act.put, List.setIfInBounds_toArray, List.set_cons_zero, List.set_cons_succ]
    refine wpAnyH_ready (rs := [14]) (by kernel_rfl) (by simp) ?_
    refine (AllReadyH.cons rfl (fun K hK => ?_) AllReadyH.nil)
    go_simp
    refine (F6.out _ hHeld).mono ?_
    rintro e w5 ⟨c9, rfl, hc9, hb⟩
    obtain ⟨k9, t9, mv9, lv9, p9, rfl, o7, o8⟩ := At_form hc9
    have hS := Below.trans hHeld (hb.mono hHeld.size)
    have F9 := Lib.hid (F7.out _ _ w5 hS hc9)
    refine hK.out _ _ hS (fun hHeld => ?_)
    clear hK K hb hS hc9
    try simp only [List.getElem_toArray, List.getElem_cons_succ, List.getElem_cons_zero, Act.put, List.setIfInBounds_toArray, List.set_cons_zero, List.set_cons_succ]
    refine wpAnyH_ready (rs := [16]) (by kernel_rfl) (by simp) ?_
    refine (AllReadyH.cons rfl (fun K hK => ?_) AllReadyH.nil)
    go_simp
    refine F9.out.mono ?_
    rintro e w6 ⟨rfl, hb⟩
    have hS := Below.trans hHeld (hb.mono hHeld.size)
    refine hK.out _ _ hS (fun hHeld => ?_)
    clear hK K hb hS
    try simp only [List.getElem_toArray, List.getElem_cons_succ, List.getElem_cons_zero, Act.put, List.setIfInBounds_toArray, List.set_cons_zero, List.set_cons_succ]
    refine wpAnyH_take (i := 17) (v := Value.bool true) rfl (by kernel_rfl) (by kernel_rfl) (by kernel_rfl) (fun _ _ _ h => h) (Or.inl ⟨rfl, fun w' hw' => ?_⟩) hHeld ?_
    · go_simp
    simp only [List.getElem_toArray, List.getElem_cons_succ, List.getElem_cons_zero, Act.put, List.setIfInBounds_toArray, List.set_cons_zero, List.set_cons_succ]
    refine wpAnyH_take (i := 18) (v := Value.bool true) rfl (by kernel_rfl) (by kernel_rfl) (by kernel_rfl) (fun _ _ _ h => h) (Or.inl ⟨rfl, fun w' hw' => ?_⟩) hHeld ?_
    · go_simp
    simp only [List.getElem_toArray, List.getElem_cons_succ, List.getElem_cons_zero, Act.put, List.setIfInBounds_toArray, List.set_cons_zero, List.set_cons_succ]
    refine wpAnyH_take (i := 19) rfl (by kernel_rfl) (by kernel_rfl) (by kernel_rfl) (fun _ _ _ h => h) (yieldsIf_load_mid (by rfl) _ _ rfl W5p 0 rfl [.int .i64 kp, .string tp, mvp, lvp, .int .i64 pp] _ (fun w' hw' => row_range (Below.row hw' HPB.out)) Try.underlying28 rfl info28) hHeld ?_
    simp only [List.getElem_toArray, List.getElem_cons_succ, List.getElem_cons_zero, Act.put, List.setIfInBounds_toArray, List.set_cons_zero, List.set_cons_succ]
    refine wpAnyH_ready (rs := [20]) (by kernel_rfl) (by simp) ?_
    refine (AllReadyH.cons rfl (fun K hK => ?_) AllReadyH.nil)
    go_simp
    refine (F8.out _ hHeld).mono ?_
    rintro e w5 ⟨rfl, hb⟩
    have hS := Below.trans hHeld (hb.mono hHeld.size)
    refine hK.out _ _ hS (fun hHeld => ?_)
    clear hK K hb hS
    try simp only [List.getElem_toArray, List.getElem_cons_succ, List.getElem_cons_zero, Act.put, List.setIfInBounds_toArray, List.set_cons_zero, List.set_cons_succ]
    refine wpAnyH_take (i := 21) (v := Value.bool true) rfl (by kernel_rfl) (by kernel_rfl) (by kernel_rfl) (fun _ _ _ h => h) (Or.inl ⟨rfl, fun w' hw' => ?_⟩) hHeld ?_
    · go_simp
    simp only [List.getElem_toArray, List.getElem_cons_succ, List.getElem_cons_zero, Act.put, List.setIfInBounds_toArray, List.set_cons_zero, List.set_cons_succ]
    refine wpAnyH_take (i := 22) (v := Value.bool true) rfl (by kernel_rfl) (by kernel_rfl) (by kernel_rfl) (fun _ _ _ h => h) (Or.inl ⟨rfl, fun w' hw' => ?_⟩) hHeld ?_
    · go_simp
    simp only [List.getElem_toArray, List.getElem_cons_succ, List.getElem_cons_zero, Act.put, List.setIfInBounds_toArray, List.set_cons_zero, List.set_cons_succ]
    refine wpAnyH_done (by kernel_rfl) ?_ _
    refine NoPanic.normal ?_
    have HS := Lib.hid hHeld
    clear hHeld
    go_wp2
    go_ret
    exact ⟨rfl, B5.out.trans (HS.out.mono B5.out.size)⟩
end Go.Proofs.Ytlkpddokmibkiaa
