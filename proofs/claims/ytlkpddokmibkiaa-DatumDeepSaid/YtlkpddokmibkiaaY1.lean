/- The walk of DatumDeep. -/
import Derived.Test.YtlkpddokmibkiaaY0
import Derived.Deep.Cut
namespace Go.Proofs.Ytlkpddokmibkiaa
open Go.RowKit
set_option linter.unusedVariables false
set_option linter.unusedSimpArgs false

theorem list_at {S : Nat → Prop} {w : World} {v : Value} {ds : List Dt} (h : LAt S w v ds) : Dt.At S w (.mk 4 ⟨#[]⟩ [] ds 0) #[.int .i64 4, .string ⟨#[]⟩, .slice none 0 0, v, .int .i64 0] := by
  rw [At_mk]; exact ⟨_, _, rfl, .inl ⟨rfl, rfl⟩, h⟩

set_option maxHeartbeats 4000000 in
theorem deep_walk (l : List Rw) (ao : Option Addr) (ac : Nat) (a1 : Int) (w : World) (hR : RsAt w ao l) (h1 : I64 a1) :
    Calls Try.prog 8 #[.slice ao l.length ac, .int .i64 a1] w fun e w' => e = .returned (.bool true) ∧ Below w.heap.size w w' := by
  have HR := Lib.hid hR
  have HI := Lib.hid h1
  clear hR h1
  go_enter Try.func8, Try.ntmps8
  go_wp2_with fail
  refine (known_any _).mono ?_
  rintro e w0 ⟨rfl, hb0⟩
  have B0 := Lib.hid hb0
  have R0 := Lib.hid (HR.out.below hb0)
  clear hb0
  go_wp2_with fail
  refine (few_any l ao ac w0 R0.out).mono ?_
  rintro e w' ⟨r, rfl, hfew, rfl⟩
  cases r with
  | false =>
    clear hfew
    go_wp2
    go_ret
    exact ⟨rfl, B0.out⟩
  | true =>
    have hc := hfew rfl
    clear hfew
    have HC := Lib.hid hc
    clear hc
    go_wp2_with fail
    refine (within_some a1 50 HI.out (by decide) (by decide) _).mono ?_
    rintro e w' ⟨r, hr, rfl, rfl⟩
    go_wp2_with fail
    refine (all_any l (by have := HC.out; omega) ao ac w0 R0.out).mono ?_
    rintro e w1 ⟨dv, rfl, hown, hb1⟩
    obtain ⟨dao, dcap, rfl⟩ := hown.at.form
    obtain ⟨dn, hdn⟩ : ∃ dn, dn = (Rw.makes l).length := ⟨_, rfl⟩
    rw [← hdn] at hown ⊢
    clear hdn
    obtain ⟨d, hd⟩ : ∃ d, d = Dt.mk 4 ⟨#[]⟩ [] (Rw.makes l) 0 := ⟨_, rfl⟩
    have zs : d.size ≤ 61 := by have := makes_size l; have := HC.out; rw [hd]; simp only [Dt.size]; omega
    have zt : d.txt.length ≤ 2470 := by
      have h1 := makes_txt l
      have := HC.out
      have h2 := txts_txtr (Rw.makes l)
      rw [hd]; simp only [Dt.txt, if_true, List.length_cons, List.length_append, List.length_nil]; omega
    have hpl : d.plain = d := by rw [hd, Dt.plain, plains_makes]
    have hat := list_at hown.at
    rw [← hd] at hat
    have o1 := hown.at.one
    have HP := Lib.hid hpl
    have B1 := Lib.hid (B0.out.trans (hb1.mono B0.out.size))
    have HD := Lib.hid (deep_start d _ r w1 _ hat)
    clear hown hb1 hd hat hpl
    go_wp2_with fail
    go_loopw [7, 8, 10] (fun sv tv iv wr => DpInv d #[.int .i64 4, .string ⟨#[]⟩, .slice none 0 0, .slice dao dn dcap, .int .i64 0] r w1 sv tv iv wr) (fun _ _ iv _ => r - (intOf iv).toNat)
    case atStart => exact HD.out
    case round =>
      clear HD
      obtain ⟨i, cs, hi, rfl, rfl, rfl, h6, h9, hat, hatd, hbw⟩ := hrel
      obtain ⟨k5, t5, mv5, lv5, p5, rfl, o3, o4⟩ := At_form hat
      obtain ⟨X, hX⟩ : ∃ X : ByteArray, X = ⟨(List.replicate i 40).toArray⟩ := ⟨_, rfl⟩
      obtain ⟨Y, hY⟩ : ∃ Y : ByteArray, Y = ⟨(List.replicate i 41).toArray⟩ := ⟨_, rfl⟩
      have hxs : X.size ≤ 50 := by rw [hX]; simp only [ByteArray.size, List.size_toArray, List.length_replicate]; omega
      have hys : Y.size ≤ 50 := by rw [hY]; simp only [ByteArray.size, List.size_toArray, List.length_replicate]; omega
      rw [← hX, ← hY]
      have H6 := Lib.hid h6
      have H9 := Lib.hid h9
      have HT := Lib.hid hat
      have HTD := Lib.hid hatd
      have HB := Lib.hid hbw
      have h9l : w1.heap.size + 1 < wr.heap.size := (Array.getElem?_eq_some_iff.1 h9).1
      by_cases hlt : i < r
      · have q1 : decide ((i : Int) < (r : Int)) = true := decide_eq_true (by omega)
        have HN := Lib.hid (deep_more d _ _ r i w1 wr hlt h6 h9 hat hatd hbw X Y hX hY)
        have HA := Lib.hid ((Lib.alloc_old wr (.cells #[.int .i64 k5, .string t5, mv5, lv5, .int .i64 p5] 28) _ h9l).trans h9)
        clear h6 h9 hat hatd hbw hX hY
        go_wp2_with (first | (refine wpList_load_row rfl 28 _ rfl (w1.heap.size + 1) rfl 28 #[.int .i64 k5, .string t5, mv5, lv5, .int .i64 p5] (0, 0) _ H9.out Try.underlying28 rfl info28 ?_) | (refine wpList_store_row rfl 28 _ _ rfl (w1.heap.size + 1) #[.int .i64 4, .string ⟨#[]⟩, .slice none 0 0, .slice (some ⟨wr.heap.size, 0, none⟩) 1 1, .int .i64 0] rfl rfl 28 #[.int .i64 k5, .string t5, mv5, lv5, .int .i64 p5] HA.out info28 rfl (by simp [Value.oneCell']) ?_))
        go_roundw
        case rel => exact HN.out
        case measure => simp [intOf]; omega
      · obtain rfl : i = r := by omega
        have q1 : decide ((i : Int) < (i : Int)) = false := decide_eq_false (by omega)
        clear h6 h9 hat hatd hbw hlt HI HC
        obtain ⟨TD, hTD⟩ : ∃ TD : ByteArray, TD = ⟨d.txt.toArray⟩ := ⟨_, rfl⟩
        obtain ⟨dz, hdz⟩ : ∃ dz, dz = d.size := ⟨_, rfl⟩
        have htd : TD.size ≤ 2470 := by rw [hTD]; simp only [ByteArray.size, List.size_toArray]; omega
        have hdz61 : dz ≤ 61 := by omega
        have hwt : (wrapN i d).txt.length ≤ 1000000 := by rw [wrapN_txt]; simp only [List.length_append, List.length_replicate]; omega
        have hws : (wrapN i d).size ≤ 1000000 := by rw [wrapN_size]; omega
        have F1 := Lib.hid (part_text HT.out hws hwt (X ++ TD ++ Y) (by rw [hX, hTD, hY, str_app, str_app, wrapN_txt, List.append_assoc]))
        have F2 := Lib.hid (part_text HTD.out (by omega) (by omega) TD hTD)
        have F3' := part_size HT.out hws
        rw [wrapN_size, ← hdz] at F3'
        have F3 : Hid (∀ w', Below wr.heap.size wr w' → Calls Try.prog 22 #[.agg #[.int .i64 k5, .string t5, mv5, lv5, .int .i64 p5]] w' (RetInt ((dz : Int) + (i : Int)) w')) := by
          intro w' hb
          have := F3' w' hb
          rw [Int.natCast_add] at this
          exact this
        have F4' := part_size HTD.out (by omega)
        rw [← hdz] at F4'
        have F4 := Lib.hid F4'
        have F5' : ∀ w', Below wr.heap.size wr w' → Calls Try.prog 19 #[.agg #[.int .i64 k5, .string t5, mv5, lv5, .int .i64 p5], .agg #[.int .i64 4, .string ⟨#[]⟩, .slice none 0 0, .slice dao dn dcap, .int .i64 0]] w' (RetBool ((i : Int) == 0) w') := by
          intro w' hb
          have := same_any 1000000 (by decide) (wrapN i d) d hws _ _ _ _ w' (Dt.At.keeps (Keeps.of_below hb) _ _ HT.out) (Dt.At.keeps (Keeps.of_below hb) _ _ HTD.out)
          rw [wrapN_same] at this
          exact this
        have F6 : Hid (∀ w', Below wr.heap.size wr w' → Calls Try.prog 15 #[.agg #[.int .i64 k5, .string t5, mv5, lv5, .int .i64 p5]] w' (RetMk (wrapN i d) w')) := by
          intro w' hb
          have := plain_any 1000000 (by decide) (wrapN i d) hws _ _ w' (Dt.At.keeps (Keeps.of_below hb) _ _ HT.out)
          rw [wrapN_plain d HP.out] at this
          exact this
        have F7 : Hid (∀ (S : Nat → Prop) (cs : Array Value) w', Below wr.heap.size wr w' → Dt.At S w' (wrapN i d) cs → Calls Try.prog 20 #[.agg cs, .agg #[.int .i64 k5, .string t5, mv5, lv5, .int .i64 p5]] w' (RetBool true w')) := by
          intro S cs w' hb hc
          have := refsame_any 1000000 (by decide) (wrapN i d) (wrapN i d) hws _ _ _ _ w' hc (Dt.At.keeps (Keeps.of_below hb) _ _ HT.out)
          rw [same_refl] at this
          exact this
        clear F3' F4' hX hY hTD hdz hwt hws zs zt
        have FB := Lib.hid (B1.out.trans (HB.out.mono B1.out.size))
        obtain ⟨bb, hbb⟩ : ∃ bb, bb = ((i : Int) == 0) := ⟨_, rfl⟩
        rw [← hbb] at F5'
        have F5 := Lib.hid F5'
        clear F5' o1
        cases bb with
        | true =>
          have i0 : i = 0 := by have := beq_iff_eq.1 hbb.symm; omega
          clear hbb
          go_upto_region 14 with fail
          have I0 := Lib.hid i0
          clear i0 q1
          refine wp_region_noPanic ?_
          refine wp_region_held_drew (S := Below wr.heap.size wr) (by kernel_rfl) ((Below.refl _ _).drew) (fun hHeld => ?_)
          refine wpAnyH_take (i := 0) rfl (by kernel_rfl) (by kernel_rfl) (by kernel_rfl) (fun _ _ _ h => h) (yieldsIf_load_mid (by rfl) _ _ rfl (w1.heap.size + 1) 0 rfl [.int .i64 k5, .string t5, mv5, lv5, .int .i64 p5] _ (fun w' hw' => row_range (Below.row hw' H9.out)) Try.underlying28 rfl info28) hHeld ?_
          simp only [List.getElem_toArray, List.getElem_cons_succ, List.getElem_cons_zero, Act.put, List.setIfInBounds_toArray, List.set_cons_zero, List.set_cons_succ]
          refine wpAnyH_take (i := 2) (v := Value.string X) rfl (by kernel_rfl) (by kernel_rfl) (by kernel_rfl) (fun _ _ _ h => h) (Or.inl ⟨rfl, fun w' hw' => ?_⟩) hHeld ?_
          · go_simp
          simp only [List.getElem_toArray, List.getElem_cons_succ, List.getElem_cons_zero, Act.put, List.setIfInBounds_toArray, List.set_cons_zero, List.set_cons_succ]
          refine wpAnyH_take (i := 3) rfl (by kernel_rfl) (by kernel_rfl) (by kernel_rfl) (fun _ _ _ h => h) (yieldsIf_load_mid (by rfl) _ _ rfl w1.heap.size 0 rfl [.int .i64 4, .string ⟨#[]⟩, .slice none 0 0, .slice dao dn dcap, .int .i64 0] _ (fun w' hw' => row_range (Below.row hw' H6.out)) Try.underlying28 rfl info28) hHeld ?_
          simp only [List.getElem_toArray, List.getElem_cons_succ, List.getElem_cons_zero, Act.put, List.setIfInBounds_toArray, List.set_cons_zero, List.set_cons_succ]
          refine wpAnyH_take (i := 6) (v := Value.string Y) rfl (by kernel_rfl) (by kernel_rfl) (by kernel_rfl) (fun _ _ _ h => h) (Or.inl ⟨rfl, fun w' hw' => ?_⟩) hHeld ?_
          · go_simp
          simp only [List.getElem_toArray, List.getElem_cons_succ, List.getElem_cons_zero, Act.put, List.setIfInBounds_toArray, List.set_cons_zero, List.set_cons_succ]
          refine wpAnyH_ready (rs := [1]) (by kernel_rfl) (by simp) ?_
          refine (AllReadyH.cons rfl (fun K hK => ?_) AllReadyH.nil)
          go_simp
          refine (F1.out _ hHeld).mono ?_
          rintro e w5 ⟨rfl, hb⟩
          have hS := Below.trans hHeld (hb.mono hHeld.size)
          refine hK.out _ _ hS (fun hHeld => ?_)
          clear hK K hb hS
          try simp only [List.getElem_toArray, List.getElem_cons_succ, List.getElem_cons_zero, Act.put, List.setIfInBounds_toArray, List.set_cons_zero, List.set_cons_succ]
          refine wpAnyH_ready (rs := [4]) (by kernel_rfl) (by simp) ?_
          refine (AllReadyH.cons rfl (fun K hK => ?_) AllReadyH.nil)
          go_simp
          refine (F2.out _ hHeld).mono ?_
          rintro e w5 ⟨rfl, hb⟩
          have hS := Below.trans hHeld (hb.mono hHeld.size)
          refine hK.out _ _ hS (fun hHeld => ?_)
          clear hK K hb hS
          try simp only [List.getElem_toArray, List.getElem_cons_succ, List.getElem_cons_zero, Act.put, List.setIfInBounds_toArray, List.set_cons_zero, List.set_cons_succ]
          refine wpAnyH_take (i := 5) (v := Value.string (X ++ TD)) rfl (by kernel_rfl) (by kernel_rfl) (by kernel_rfl) (fun _ _ _ h => h) (Or.inl ⟨rfl, fun w' hw' => ?_⟩) hHeld ?_
          · go_simp; omega
          simp only [List.getElem_toArray, List.getElem_cons_succ, List.getElem_cons_zero, Act.put, List.setIfInBounds_toArray, List.set_cons_zero, List.set_cons_succ]
          refine wpAnyH_take (i := 7) (v := Value.string (X ++ TD ++ Y)) rfl (by kernel_rfl) (by kernel_rfl) (by kernel_rfl) (fun _ _ _ h => h) (Or.inl ⟨rfl, fun w' hw' => ?_⟩) hHeld ?_
          · go_simp; omega
          simp only [List.getElem_toArray, List.getElem_cons_succ, List.getElem_cons_zero, Act.put, List.setIfInBounds_toArray, List.set_cons_zero, List.set_cons_succ]
          refine wpAnyH_take (i := 8) (v := Value.bool true) rfl (by kernel_rfl) (by kernel_rfl) (by kernel_rfl) (fun _ _ _ h => h) (Or.inl ⟨rfl, fun w' hw' => ?_⟩) hHeld ?_
          · go_simp
          simp only [List.getElem_toArray, List.getElem_cons_succ, List.getElem_cons_zero, Act.put, List.setIfInBounds_toArray, List.set_cons_zero, List.set_cons_succ]
          refine wpAnyH_take (i := 9) (v := Value.bool true) rfl (by kernel_rfl) (by kernel_rfl) (by kernel_rfl) (fun _ _ _ h => h) (Or.inl ⟨rfl, fun w' hw' => ?_⟩) hHeld ?_
          · go_simp
          simp only [List.getElem_toArray, List.getElem_cons_succ, List.getElem_cons_zero, Act.put, List.setIfInBounds_toArray, List.set_cons_zero, List.set_cons_succ]
          refine wpAnyH_take (i := 10) rfl (by kernel_rfl) (by kernel_rfl) (by kernel_rfl) (fun _ _ _ h => h) (yieldsIf_load_mid (by rfl) _ _ rfl (w1.heap.size + 1) 0 rfl [.int .i64 k5, .string t5, mv5, lv5, .int .i64 p5] _ (fun w' hw' => row_range (Below.row hw' H9.out)) Try.underlying28 rfl info28) hHeld ?_
          simp only [List.getElem_toArray, List.getElem_cons_succ, List.getElem_cons_zero, Act.put, List.setIfInBounds_toArray, List.set_cons_zero, List.set_cons_succ]
          refine wpAnyH_take (i := 12) rfl (by kernel_rfl) (by kernel_rfl) (by kernel_rfl) (fun _ _ _ h => h) (yieldsIf_load_mid (by rfl) _ _ rfl w1.heap.size 0 rfl [.int .i64 4, .string ⟨#[]⟩, .slice none 0 0, .slice dao dn dcap, .int .i64 0] _ (fun w' hw' => row_range (Below.row hw' H6.out)) Try.underlying28 rfl info28) hHeld ?_
          simp only [List.getElem_toArray, List.getElem_cons_succ, List.getElem_cons_zero, Act.put, List.setIfInBounds_toArray, List.set_cons_zero, List.set_cons_succ]
          refine wpAnyH_take (i := 14) (v := Value.int .i64 i) rfl (by kernel_rfl) (by kernel_rfl) (by kernel_rfl) (fun _ _ _ h => h) (Or.inl ⟨rfl, fun w' hw' => ?_⟩) hHeld ?_
          · go_simp
          simp only [List.getElem_toArray, List.getElem_cons_succ, List.getElem_cons_zero, Act.put, List.setIfInBounds_toArray, List.set_cons_zero, List.set_cons_succ]
          refine wpAnyH_ready (rs := [11]) (by kernel_rfl) (by simp) ?_
          refine (AllReadyH.cons rfl (fun K hK => ?_) AllReadyH.nil)
          go_simp
          refine (F3.out _ hHeld).mono ?_
          rintro e w5 ⟨rfl, hb⟩
          have hS := Below.trans hHeld (hb.mono hHeld.size)
          refine hK.out _ _ hS (fun hHeld => ?_)
          clear hK K hb hS
          try simp only [List.getElem_toArray, List.getElem_cons_succ, List.getElem_cons_zero, Act.put, List.setIfInBounds_toArray, List.set_cons_zero, List.set_cons_succ]
          refine wpAnyH_ready (rs := [13]) (by kernel_rfl) (by simp) ?_
          refine (AllReadyH.cons rfl (fun K hK => ?_) AllReadyH.nil)
          go_simp
          refine (F4.out _ hHeld).mono ?_
          rintro e w5 ⟨rfl, hb⟩
          have hS := Below.trans hHeld (hb.mono hHeld.size)
          refine hK.out _ _ hS (fun hHeld => ?_)
          clear hK K hb hS
          try simp only [List.getElem_toArray, List.getElem_cons_succ, List.getElem_cons_zero, Act.put, List.setIfInBounds_toArray, List.set_cons_zero, List.set_cons_succ]
          refine wpAnyH_take (i := 15) (v := Value.int .i64 ((dz : Int) + (i : Int))) rfl (by kernel_rfl) (by kernel_rfl) (by kernel_rfl) (fun _ _ _ h => h) (Or.inl ⟨rfl, fun w' hw' => ?_⟩) hHeld ?_
          · go_simp; exact IntWalk.i64_in _ ⟨by omega, by omega⟩
          simp only [List.getElem_toArray, List.getElem_cons_succ, List.getElem_cons_zero, Act.put, List.setIfInBounds_toArray, List.set_cons_zero, List.set_cons_succ]
          refine wpAnyH_take (i := 16) (v := Value.bool true) rfl (by kernel_rfl) (by kernel_rfl) (by kernel_rfl) (fun _ _ _ h => h) (Or.inl ⟨rfl, fun w' hw' => ?_⟩) hHeld ?_
          · go_simp
          simp only [List.getElem_toArray, List.getElem_cons_succ, List.getElem_cons_zero, Act.put, List.setIfInBounds_toArray, List.set_cons_zero, List.set_cons_succ]
          refine wpAnyH_take (i := 17) (v := Value.bool true) rfl (by kernel_rfl) (by kernel_rfl) (by kernel_rfl) (fun _ _ _ h => h) (Or.inl ⟨rfl, fun w' hw' => ?_⟩) hHeld ?_
          · go_simp
          simp only [List.getElem_toArray, List.getElem_cons_succ, List.getElem_cons_zero, Act.put, List.setIfInBounds_toArray, List.set_cons_zero, List.set_cons_succ]
          refine wpAnyH_take (i := 18) (v := Value.bool true) rfl (by kernel_rfl) (by kernel_rfl) (by kernel_rfl) (fun _ _ _ h => h) (Or.inl ⟨rfl, fun w' hw' => ?_⟩) hHeld ?_
          · go_simp
          simp only [List.getElem_toArray, List.getElem_cons_succ, List.getElem_cons_zero, Act.put, List.setIfInBounds_toArray, List.set_cons_zero, List.set_cons_succ]
          refine wpAnyH_take (i := 19) rfl (by kernel_rfl) (by kernel_rfl) (by kernel_rfl) (fun _ _ _ h => h) (yieldsIf_load_mid (by rfl) _ _ rfl (w1.heap.size + 1) 0 rfl [.int .i64 k5, .string t5, mv5, lv5, .int .i64 p5] _ (fun w' hw' => row_range (Below.row hw' H9.out)) Try.underlying28 rfl info28) hHeld ?_
          simp only [List.getElem_toArray, List.getElem_cons_succ, List.getElem_cons_zero, Act.put, List.setIfInBounds_toArray, List.set_cons_zero, List.set_cons_succ]
          refine wpAnyH_take (i := 20) rfl (by kernel_rfl) (by kernel_rfl) (by kernel_rfl) (fun _ _ _ h => h) (yieldsIf_load_mid (by rfl) _ _ rfl w1.heap.size 0 rfl [.int .i64 4, .string ⟨#[]⟩, .slice none 0 0, .slice dao dn dcap, .int .i64 0] _ (fun w' hw' => row_range (Below.row hw' H6.out)) Try.underlying28 rfl info28) hHeld ?_
          simp only [List.getElem_toArray, List.getElem_cons_succ, List.getElem_cons_zero, Act.put, List.setIfInBounds_toArray, List.set_cons_zero, List.set_cons_succ]
          refine wpAnyH_take (i := 22) (v := Value.int .i64 i) rfl (by kernel_rfl) (by kernel_rfl) (by kernel_rfl) (fun _ _ _ h => h) (Or.inl ⟨rfl, fun w' hw' => ?_⟩) hHeld ?_
          · go_simp
          simp only [List.getElem_toArray, List.getElem_cons_succ, List.getElem_cons_zero, Act.put, List.setIfInBounds_toArray, List.set_cons_zero, List.set_cons_succ]
          refine wpAnyH_take (i := 23) (v := Value.bool true) rfl (by kernel_rfl) (by kernel_rfl) (by kernel_rfl) (fun _ _ _ h => h) (Or.inl ⟨rfl, fun w' hw' => ?_⟩) hHeld ?_
          · have i0 := I0.out; have z0 : (i : Int) = 0 := (by omega); have z1 : ((i : Int) == 0) = true := (by rw [beq_iff_eq]; omega); go_simp
          simp only [List.getElem_toArray, List.getElem_cons_succ, List.getElem_cons_zero, Act.put, List.setIfInBounds_toArray, List.set_cons_zero, List.set_cons_succ]
          refine wpAnyH_ready (rs := [21]) (by kernel_rfl) (by simp) ?_
          refine (AllReadyH.cons rfl (fun K hK => ?_) AllReadyH.nil)
          go_simp
          refine (F5.out _ hHeld).mono ?_
          rintro e w5 ⟨rfl, hb⟩
          have hS := Below.trans hHeld (hb.mono hHeld.size)
          refine hK.out _ _ hS (fun hHeld => ?_)
          clear hK K hb hS
          try simp only [List.getElem_toArray, List.getElem_cons_succ, List.getElem_cons_zero, Act.put, List.setIfInBounds_toArray, List.set_cons_zero, List.set_cons_succ]
          refine wpAnyH_take (i := 24) (v := Value.bool true) rfl (by kernel_rfl) (by kernel_rfl) (by kernel_rfl) (fun _ _ _ h => h) (Or.inl ⟨rfl, fun w' hw' => ?_⟩) hHeld ?_
          · go_simp
          simp only [List.getElem_toArray, List.getElem_cons_succ, List.getElem_cons_zero, Act.put, List.setIfInBounds_toArray, List.set_cons_zero, List.set_cons_succ]
          refine wpAnyH_take (i := 25) (v := Value.bool true) rfl (by kernel_rfl) (by kernel_rfl) (by kernel_rfl) (fun _ _ _ h => h) (Or.inl ⟨rfl, fun w' hw' => ?_⟩) hHeld ?_
          · go_simp
          simp only [List.getElem_toArray, List.getElem_cons_succ, List.getElem_cons_zero, Act.put, List.setIfInBounds_toArray, List.set_cons_zero, List.set_cons_succ]
          refine wpAnyH_take (i := 26) (v := Value.bool true) rfl (by kernel_rfl) (by kernel_rfl) (by kernel_rfl) (fun _ _ _ h => h) (Or.inl ⟨rfl, fun w' hw' => ?_⟩) hHeld ?_
          · go_simp
          simp only [List.getElem_toArray, List.getElem_cons_succ, List.getElem_cons_zero, Act.put, List.setIfInBounds_toArray, List.set_cons_zero, List.set_cons_succ]
          refine wpAnyH_take (i := 27) rfl (by kernel_rfl) (by kernel_rfl) (by kernel_rfl) (fun _ _ _ h => h) (yieldsIf_load_mid (by rfl) _ _ rfl (w1.heap.size + 1) 0 rfl [.int .i64 k5, .string t5, mv5, lv5, .int .i64 p5] _ (fun w' hw' => row_range (Below.row hw' H9.out)) Try.underlying28 rfl info28) hHeld ?_
          simp only [List.getElem_toArray, List.getElem_cons_succ, List.getElem_cons_zero, Act.put, List.setIfInBounds_toArray, List.set_cons_zero, List.set_cons_succ]
          refine wpAnyH_take (i := 29) rfl (by kernel_rfl) (by kernel_rfl) (by kernel_rfl) (fun _ _ _ h => h) (yieldsIf_load_mid (by rfl) _ _ rfl (w1.heap.size + 1) 0 rfl [.int .i64 k5, .string t5, mv5, lv5, .int .i64 p5] _ (fun w' hw' => row_range (Below.row hw' H9.out)) Try.underlying28 rfl info28) hHeld ?_
          simp only [List.getElem_toArray, List.getElem_cons_succ, List.getElem_cons_zero, Act.put, List.setIfInBounds_toArray, List.set_cons_zero, List.set_cons_succ]
          refine wpAnyH_ready (rs := [28]) (by kernel_rfl) (by simp) ?_
          refine (AllReadyH.cons rfl (fun K hK => ?_) AllReadyH.nil)
          go_simp
          refine (F6.out _ hHeld).mono ?_
          rintro e w5 ⟨c9, rfl, hc9, hb⟩
          obtain ⟨k9, t9, mv9, lv9, p9, rfl, o5, o6⟩ := At_form hc9
          have hS := Below.trans hHeld (hb.mono hHeld.size)
          have F8 := Lib.hid (F7.out _ _ w5 hS hc9)
          refine hK.out _ _ hS (fun hHeld => ?_)
          clear hK K hb hS hc9
          try simp only [List.getElem_toArray, List.getElem_cons_succ, List.getElem_cons_zero, Act.put, List.setIfInBounds_toArray, List.set_cons_zero, List.set_cons_succ]
          refine wpAnyH_ready (rs := [30]) (by kernel_rfl) (by simp) ?_
          refine (AllReadyH.cons rfl (fun K hK => ?_) AllReadyH.nil)
          go_simp
          refine F8.out.mono ?_
          rintro e w6 ⟨rfl, hb⟩
          have hS := Below.trans hHeld (hb.mono hHeld.size)
          refine hK.out _ _ hS (fun hHeld => ?_)
          clear hK K hb hS
          try simp only [List.getElem_toArray, List.getElem_cons_succ, List.getElem_cons_zero, Act.put, List.setIfInBounds_toArray, List.set_cons_zero, List.set_cons_succ]
          refine wpAnyH_take (i := 31) (v := Value.bool true) rfl (by kernel_rfl) (by kernel_rfl) (by kernel_rfl) (fun _ _ _ h => h) (Or.inl ⟨rfl, fun w' hw' => ?_⟩) hHeld ?_
          · go_simp
          simp only [List.getElem_toArray, List.getElem_cons_succ, List.getElem_cons_zero, Act.put, List.setIfInBounds_toArray, List.set_cons_zero, List.set_cons_succ]
          refine wpAnyH_take (i := 32) (v := Value.bool true) rfl (by kernel_rfl) (by kernel_rfl) (by kernel_rfl) (fun _ _ _ h => h) (Or.inl ⟨rfl, fun w' hw' => ?_⟩) hHeld ?_
          · go_simp
          simp only [List.getElem_toArray, List.getElem_cons_succ, List.getElem_cons_zero, Act.put, List.setIfInBounds_toArray, List.set_cons_zero, List.set_cons_succ]
          refine wpAnyH_done (by kernel_rfl) ?_ _
          refine NoPanic.normal ?_
          have HS := Lib.hid hHeld
          clear hHeld
          go_wp2
          go_ret
          exact ⟨rfl, FB.out.trans (HS.out.mono FB.out.size)⟩
        | false =>
          have i0 : ¬ i = 0 := by intro h; rw [h] at hbb; exact absurd hbb (by decide)
          clear hbb
          go_upto_region 14 with fail
          have I0 := Lib.hid i0
          clear i0 q1
          refine wp_region_noPanic ?_
          refine wp_region_held_drew (S := Below wr.heap.size wr) (by kernel_rfl) ((Below.refl _ _).drew) (fun hHeld => ?_)
          refine wpAnyH_take (i := 0) rfl (by kernel_rfl) (by kernel_rfl) (by kernel_rfl) (fun _ _ _ h => h) (yieldsIf_load_mid (by rfl) _ _ rfl (w1.heap.size + 1) 0 rfl [.int .i64 k5, .string t5, mv5, lv5, .int .i64 p5] _ (fun w' hw' => row_range (Below.row hw' H9.out)) Try.underlying28 rfl info28) hHeld ?_
          simp only [List.getElem_toArray, List.getElem_cons_succ, List.getElem_cons_zero, Act.put, List.setIfInBounds_toArray, List.set_cons_zero, List.set_cons_succ]
          refine wpAnyH_take (i := 2) (v := Value.string X) rfl (by kernel_rfl) (by kernel_rfl) (by kernel_rfl) (fun _ _ _ h => h) (Or.inl ⟨rfl, fun w' hw' => ?_⟩) hHeld ?_
          · go_simp
          simp only [List.getElem_toArray, List.getElem_cons_succ, List.getElem_cons_zero, Act.put, List.setIfInBounds_toArray, List.set_cons_zero, List.set_cons_succ]
          refine wpAnyH_take (i := 3) rfl (by kernel_rfl) (by kernel_rfl) (by kernel_rfl) (fun _ _ _ h => h) (yieldsIf_load_mid (by rfl) _ _ rfl w1.heap.size 0 rfl [.int .i64 4, .string ⟨#[]⟩, .slice none 0 0, .slice dao dn dcap, .int .i64 0] _ (fun w' hw' => row_range (Below.row hw' H6.out)) Try.underlying28 rfl info28) hHeld ?_
          simp only [List.getElem_toArray, List.getElem_cons_succ, List.getElem_cons_zero, Act.put, List.setIfInBounds_toArray, List.set_cons_zero, List.set_cons_succ]
          refine wpAnyH_take (i := 6) (v := Value.string Y) rfl (by kernel_rfl) (by kernel_rfl) (by kernel_rfl) (fun _ _ _ h => h) (Or.inl ⟨rfl, fun w' hw' => ?_⟩) hHeld ?_
          · go_simp
          simp only [List.getElem_toArray, List.getElem_cons_succ, List.getElem_cons_zero, Act.put, List.setIfInBounds_toArray, List.set_cons_zero, List.set_cons_succ]
          refine wpAnyH_ready (rs := [1]) (by kernel_rfl) (by simp) ?_
          refine (AllReadyH.cons rfl (fun K hK => ?_) AllReadyH.nil)
          go_simp
          refine (F1.out _ hHeld).mono ?_
          rintro e w5 ⟨rfl, hb⟩
          have hS := Below.trans hHeld (hb.mono hHeld.size)
          refine hK.out _ _ hS (fun hHeld => ?_)
          clear hK K hb hS
          try simp only [List.getElem_toArray, List.getElem_cons_succ, List.getElem_cons_zero, Act.put, List.setIfInBounds_toArray, List.set_cons_zero, List.set_cons_succ]
          refine wpAnyH_ready (rs := [4]) (by kernel_rfl) (by simp) ?_
          refine (AllReadyH.cons rfl (fun K hK => ?_) AllReadyH.nil)
          go_simp
          refine (F2.out _ hHeld).mono ?_
          rintro e w5 ⟨rfl, hb⟩
          have hS := Below.trans hHeld (hb.mono hHeld.size)
          refine hK.out _ _ hS (fun hHeld => ?_)
          clear hK K hb hS
          try simp only [List.getElem_toArray, List.getElem_cons_succ, List.getElem_cons_zero, Act.put, List.setIfInBounds_toArray, List.set_cons_zero, List.set_cons_succ]
          refine wpAnyH_take (i := 5) (v := Value.string (X ++ TD)) rfl (by kernel_rfl) (by kernel_rfl) (by kernel_rfl) (fun _ _ _ h => h) (Or.inl ⟨rfl, fun w' hw' => ?_⟩) hHeld ?_
          · go_simp; omega
          simp only [List.getElem_toArray, List.getElem_cons_succ, List.getElem_cons_zero, Act.put, List.setIfInBounds_toArray, List.set_cons_zero, List.set_cons_succ]
          refine wpAnyH_take (i := 7) (v := Value.string (X ++ TD ++ Y)) rfl (by kernel_rfl) (by kernel_rfl) (by kernel_rfl) (fun _ _ _ h => h) (Or.inl ⟨rfl, fun w' hw' => ?_⟩) hHeld ?_
          · go_simp; omega
          simp only [List.getElem_toArray, List.getElem_cons_succ, List.getElem_cons_zero, Act.put, List.setIfInBounds_toArray, List.set_cons_zero, List.set_cons_succ]
          refine wpAnyH_take (i := 8) (v := Value.bool true) rfl (by kernel_rfl) (by kernel_rfl) (by kernel_rfl) (fun _ _ _ h => h) (Or.inl ⟨rfl, fun w' hw' => ?_⟩) hHeld ?_
          · go_simp
          simp only [List.getElem_toArray, List.getElem_cons_succ, List.getElem_cons_zero, Act.put, List.setIfInBounds_toArray, List.set_cons_zero, List.set_cons_succ]
          refine wpAnyH_take (i := 9) (v := Value.bool true) rfl (by kernel_rfl) (by kernel_rfl) (by kernel_rfl) (fun _ _ _ h => h) (Or.inl ⟨rfl, fun w' hw' => ?_⟩) hHeld ?_
          · go_simp
          simp only [List.getElem_toArray, List.getElem_cons_succ, List.getElem_cons_zero, Act.put, List.setIfInBounds_toArray, List.set_cons_zero, List.set_cons_succ]
          refine wpAnyH_take (i := 10) rfl (by kernel_rfl) (by kernel_rfl) (by kernel_rfl) (fun _ _ _ h => h) (yieldsIf_load_mid (by rfl) _ _ rfl (w1.heap.size + 1) 0 rfl [.int .i64 k5, .string t5, mv5, lv5, .int .i64 p5] _ (fun w' hw' => row_range (Below.row hw' H9.out)) Try.underlying28 rfl info28) hHeld ?_
          simp only [List.getElem_toArray, List.getElem_cons_succ, List.getElem_cons_zero, Act.put, List.setIfInBounds_toArray, List.set_cons_zero, List.set_cons_succ]
          refine wpAnyH_take (i := 12) rfl (by kernel_rfl) (by kernel_rfl) (by kernel_rfl) (fun _ _ _ h => h) (yieldsIf_load_mid (by rfl) _ _ rfl w1.heap.size 0 rfl [.int .i64 4, .string ⟨#[]⟩, .slice none 0 0, .slice dao dn dcap, .int .i64 0] _ (fun w' hw' => row_range (Below.row hw' H6.out)) Try.underlying28 rfl info28) hHeld ?_
          simp only [List.getElem_toArray, List.getElem_cons_succ, List.getElem_cons_zero, Act.put, List.setIfInBounds_toArray, List.set_cons_zero, List.set_cons_succ]
          refine wpAnyH_take (i := 14) (v := Value.int .i64 i) rfl (by kernel_rfl) (by kernel_rfl) (by kernel_rfl) (fun _ _ _ h => h) (Or.inl ⟨rfl, fun w' hw' => ?_⟩) hHeld ?_
          · go_simp
          simp only [List.getElem_toArray, List.getElem_cons_succ, List.getElem_cons_zero, Act.put, List.setIfInBounds_toArray, List.set_cons_zero, List.set_cons_succ]
          refine wpAnyH_ready (rs := [11]) (by kernel_rfl) (by simp) ?_
          refine (AllReadyH.cons rfl (fun K hK => ?_) AllReadyH.nil)
          go_simp
          refine (F3.out _ hHeld).mono ?_
          rintro e w5 ⟨rfl, hb⟩
          have hS := Below.trans hHeld (hb.mono hHeld.size)
          refine hK.out _ _ hS (fun hHeld => ?_)
          clear hK K hb hS
          try simp only [List.getElem_toArray, List.getElem_cons_succ, List.getElem_cons_zero, Act.put, List.setIfInBounds_toArray, List.set_cons_zero, List.set_cons_succ]
          refine wpAnyH_ready (rs := [13]) (by kernel_rfl) (by simp) ?_
          refine (AllReadyH.cons rfl (fun K hK => ?_) AllReadyH.nil)
          go_simp
          refine (F4.out _ hHeld).mono ?_
          rintro e w5 ⟨rfl, hb⟩
          have hS := Below.trans hHeld (hb.mono hHeld.size)
          refine hK.out _ _ hS (fun hHeld => ?_)
          clear hK K hb hS
          try simp only [List.getElem_toArray, List.getElem_cons_succ, List.getElem_cons_zero, Act.put, List.setIfInBounds_toArray, List.set_cons_zero, List.set_cons_succ]
          refine wpAnyH_take (i := 15) (v := Value.int .i64 ((dz : Int) + (i : Int))) rfl (by kernel_rfl) (by kernel_rfl) (by kernel_rfl) (fun _ _ _ h => h) (Or.inl ⟨rfl, fun w' hw' => ?_⟩) hHeld ?_
          · go_simp; exact IntWalk.i64_in _ ⟨by omega, by omega⟩
          simp only [List.getElem_toArray, List.getElem_cons_succ, List.getElem_cons_zero, Act.put, List.setIfInBounds_toArray, List.set_cons_zero, List.set_cons_succ]
          refine wpAnyH_take (i := 16) (v := Value.bool true) rfl (by kernel_rfl) (by kernel_rfl) (by kernel_rfl) (fun _ _ _ h => h) (Or.inl ⟨rfl, fun w' hw' => ?_⟩) hHeld ?_
          · go_simp
          simp only [List.getElem_toArray, List.getElem_cons_succ, List.getElem_cons_zero, Act.put, List.setIfInBounds_toArray, List.set_cons_zero, List.set_cons_succ]
          refine wpAnyH_take (i := 17) (v := Value.bool true) rfl (by kernel_rfl) (by kernel_rfl) (by kernel_rfl) (fun _ _ _ h => h) (Or.inl ⟨rfl, fun w' hw' => ?_⟩) hHeld ?_
          · go_simp
          simp only [List.getElem_toArray, List.getElem_cons_succ, List.getElem_cons_zero, Act.put, List.setIfInBounds_toArray, List.set_cons_zero, List.set_cons_succ]
          refine wpAnyH_take (i := 18) (v := Value.bool true) rfl (by kernel_rfl) (by kernel_rfl) (by kernel_rfl) (fun _ _ _ h => h) (Or.inl ⟨rfl, fun w' hw' => ?_⟩) hHeld ?_
          · go_simp
          simp only [List.getElem_toArray, List.getElem_cons_succ, List.getElem_cons_zero, Act.put, List.setIfInBounds_toArray, List.set_cons_zero, List.set_cons_succ]
          refine wpAnyH_take (i := 19) rfl (by kernel_rfl) (by kernel_rfl) (by kernel_rfl) (fun _ _ _ h => h) (yieldsIf_load_mid (by rfl) _ _ rfl (w1.heap.size + 1) 0 rfl [.int .i64 k5, .string t5, mv5, lv5, .int .i64 p5] _ (fun w' hw' => row_range (Below.row hw' H9.out)) Try.underlying28 rfl info28) hHeld ?_
          simp only [List.getElem_toArray, List.getElem_cons_succ, List.getElem_cons_zero, Act.put, List.setIfInBounds_toArray, List.set_cons_zero, List.set_cons_succ]
          refine wpAnyH_take (i := 20) rfl (by kernel_rfl) (by kernel_rfl) (by kernel_rfl) (fun _ _ _ h => h) (yieldsIf_load_mid (by rfl) _ _ rfl w1.heap.size 0 rfl [.int .i64 4, .string ⟨#[]⟩, .slice none 0 0, .slice dao dn dcap, .int .i64 0] _ (fun w' hw' => row_range (Below.row hw' H6.out)) Try.underlying28 rfl info28) hHeld ?_
          simp only [List.getElem_toArray, List.getElem_cons_succ, List.getElem_cons_zero, Act.put, List.setIfInBounds_toArray, List.set_cons_zero, List.set_cons_succ]
          refine wpAnyH_take (i := 22) (v := Value.int .i64 i) rfl (by kernel_rfl) (by kernel_rfl) (by kernel_rfl) (fun _ _ _ h => h) (Or.inl ⟨rfl, fun w' hw' => ?_⟩) hHeld ?_
          · go_simp
          simp only [List.getElem_toArray, List.getElem_cons_succ, List.getElem_cons_zero, Act.put, List.setIfInBounds_toArray, List.set_cons_zero, List.set_cons_succ]
          refine wpAnyH_take (i := 23) (v := Value.bool false) rfl (by kernel_rfl) (by kernel_rfl) (by kernel_rfl) (fun _ _ _ h => h) (Or.inl ⟨rfl, fun w' hw' => ?_⟩) hHeld ?_
          · have i0 := I0.out; have z0 : ¬ (i : Int) = 0 := (by omega); have z1 : ((i : Int) == 0) = false := (by rw [beq_eq_false_iff_ne]; omega); go_simp
          simp only [List.getElem_toArray, List.getElem_cons_succ, List.getElem_cons_zero, Act.put, List.setIfInBounds_toArray, List.set_cons_zero, List.set_cons_succ]
          refine wpAnyH_ready (rs := [21]) (by kernel_rfl) (by simp) ?_
          refine (AllReadyH.cons rfl (fun K hK => ?_) AllReadyH.nil)
          go_simp
          refine (F5.out _ hHeld).mono ?_
          rintro e w5 ⟨rfl, hb⟩
          have hS := Below.trans hHeld (hb.mono hHeld.size)
          refine hK.out _ _ hS (fun hHeld => ?_)
          clear hK K hb hS
          try simp only [List.getElem_toArray, List.getElem_cons_succ, List.getElem_cons_zero, Act.put, List.setIfInBounds_toArray, List.set_cons_zero, List.set_cons_succ]
          refine wpAnyH_take (i := 24) (v := Value.bool true) rfl (by kernel_rfl) (by kernel_rfl) (by kernel_rfl) (fun _ _ _ h => h) (Or.inl ⟨rfl, fun w' hw' => ?_⟩) hHeld ?_
          · go_simp
          simp only [List.getElem_toArray, List.getElem_cons_succ, List.getElem_cons_zero, Act.put, List.setIfInBounds_toArray, List.set_cons_zero, List.set_cons_succ]
          refine wpAnyH_take (i := 25) (v := Value.bool true) rfl (by kernel_rfl) (by kernel_rfl) (by kernel_rfl) (fun _ _ _ h => h) (Or.inl ⟨rfl, fun w' hw' => ?_⟩) hHeld ?_
          · go_simp
          simp only [List.getElem_toArray, List.getElem_cons_succ, List.getElem_cons_zero, Act.put, List.setIfInBounds_toArray, List.set_cons_zero, List.set_cons_succ]
          refine wpAnyH_take (i := 26) (v := Value.bool true) rfl (by kernel_rfl) (by kernel_rfl) (by kernel_rfl) (fun _ _ _ h => h) (Or.inl ⟨rfl, fun w' hw' => ?_⟩) hHeld ?_
          · go_simp
          simp only [List.getElem_toArray, List.getElem_cons_succ, List.getElem_cons_zero, Act.put, List.setIfInBounds_toArray, List.set_cons_zero, List.set_cons_succ]
          refine wpAnyH_take (i := 27) rfl (by kernel_rfl) (by kernel_rfl) (by kernel_rfl) (fun _ _ _ h => h) (yieldsIf_load_mid (by rfl) _ _ rfl (w1.heap.size + 1) 0 rfl [.int .i64 k5, .string t5, mv5, lv5, .int .i64 p5] _ (fun w' hw' => row_range (Below.row hw' H9.out)) Try.underlying28 rfl info28) hHeld ?_
          simp only [List.getElem_toArray, List.getElem_cons_succ, List.getElem_cons_zero, Act.put, List.setIfInBounds_toArray, List.set_cons_zero, List.set_cons_succ]
          refine wpAnyH_take (i := 29) rfl (by kernel_rfl) (by kernel_rfl) (by kernel_rfl) (fun _ _ _ h => h) (yieldsIf_load_mid (by rfl) _ _ rfl (w1.heap.size + 1) 0 rfl [.int .i64 k5, .string t5, mv5, lv5, .int .i64 p5] _ (fun w' hw' => row_range (Below.row hw' H9.out)) Try.underlying28 rfl info28) hHeld ?_
          simp only [List.getElem_toArray, List.getElem_cons_succ, List.getElem_cons_zero, Act.put, List.setIfInBounds_toArray, List.set_cons_zero, List.set_cons_succ]
          refine wpAnyH_ready (rs := [28]) (by kernel_rfl) (by simp) ?_
          refine (AllReadyH.cons rfl (fun K hK => ?_) AllReadyH.nil)
          go_simp
          refine (F6.out _ hHeld).mono ?_
          rintro e w5 ⟨c9, rfl, hc9, hb⟩
          obtain ⟨k9, t9, mv9, lv9, p9, rfl, o5, o6⟩ := At_form hc9
          have hS := Below.trans hHeld (hb.mono hHeld.size)
          have F8 := Lib.hid (F7.out _ _ w5 hS hc9)
          refine hK.out _ _ hS (fun hHeld => ?_)
          clear hK K hb hS hc9
          try simp only [List.getElem_toArray, List.getElem_cons_succ, List.getElem_cons_zero, Act.put, List.setIfInBounds_toArray, List.set_cons_zero, List.set_cons_succ]
          refine wpAnyH_ready (rs := [30]) (by kernel_rfl) (by simp) ?_
          refine (AllReadyH.cons rfl (fun K hK => ?_) AllReadyH.nil)
          go_simp
          refine F8.out.mono ?_
          rintro e w6 ⟨rfl, hb⟩
          have hS := Below.trans hHeld (hb.mono hHeld.size)
          refine hK.out _ _ hS (fun hHeld => ?_)
          clear hK K hb hS
          try simp only [List.getElem_toArray, List.getElem_cons_succ, List.getElem_cons_zero, Act.put, List.setIfInBounds_toArray, List.set_cons_zero, List.set_cons_succ]
          refine wpAnyH_take (i := 31) (v := Value.bool true) rfl (by kernel_rfl) (by kernel_rfl) (by kernel_rfl) (fun _ _ _ h => h) (Or.inl ⟨rfl, fun w' hw' => ?_⟩) hHeld ?_
          · go_simp
          simp only [List.getElem_toArray, List.getElem_cons_succ, List.getElem_cons_zero, Act.put, List.setIfInBounds_toArray, List.set_cons_zero, List.set_cons_succ]
          refine wpAnyH_take (i := 32) (v := Value.bool true) rfl (by kernel_rfl) (by kernel_rfl) (by kernel_rfl) (fun _ _ _ h => h) (Or.inl ⟨rfl, fun w' hw' => ?_⟩) hHeld ?_
          · go_simp
          simp only [List.getElem_toArray, List.getElem_cons_succ, List.getElem_cons_zero, Act.put, List.setIfInBounds_toArray, List.set_cons_zero, List.set_cons_succ]
          refine wpAnyH_done (by kernel_rfl) ?_ _
          refine NoPanic.normal ?_
          have HS := Lib.hid hHeld
          clear hHeld
          go_wp2
          go_ret
          exact ⟨rfl, FB.out.trans (HS.out.mono FB.out.size)⟩
end Go.Proofs.Ytlkpddokmibkiaa
