/- HeapOver, walked. -/
import Derived.Test.YtogpmpnojlepoaaLO0
namespace Go.Proofs.Ytogpmpnojlepoaa
open Go Go.RowKit
set_option linter.unusedVariables false
set_option linter.unusedSimpArgs false
theorem adrs_at {w : World} {g : Nat} {os : List Ob} (h : ∀ j (hj : j < (adrs os).length), w.cell? ⟨g, j, none⟩ = some (.int .i64 (adrs os)[j])) {i : Nat} (hi : i < os.length) : w.cell? ⟨g, i, none⟩ = some (.int .i64 (adr os i : Nat)) := by
  have h1 := h i (by rw [adrs_len]; exact hi)
  rw [adrs_get] at h1
  exact h1
theorem adr_bd2 {w : World} {b : Nat} {G : Option Nat} {os : List Ob} {m i : Nat} (hi : i < os.length) (h : HpO w b G os m) : -1000000000 ≤ ((adr os i : Nat) : Int) ∧ ((adr os i : Nat) : Int) ≤ 1000000000 := by
  have := adr_le hi
  have := h.2.2.2.2
  have := h.2.2.2.1
  omega
theorem used_o {v : Value} {w w' : World} {b : Nat} {G : Option Nat} {os : List Ob} {m U : Nat} {e : Ending} (h : RetHp v b G os m w e w') (hU : total os = U) : Calls Try.prog 23 #[.pointer (some ⟨b, 0, none⟩)] w' fun e w2 => e = .returned (.int .i64 (U : Nat)) ∧ w' = w2 := by
  obtain ⟨-, G', h1, -, -⟩ := h
  have := used_any h1.1
  rw [wds_length, hU] at this
  exact this
theorem objs_o {v : Value} {w w' : World} {b : Nat} {G : Option Nat} {os : List Ob} {m L : Nat} {e : Ending} (h : RetHp v b G os m w e w') (hL : os.length = L) : Calls Try.prog 25 #[.pointer (some ⟨b, 0, none⟩)] w' fun e w2 => ∃ ao c, e = .returned (.slice ao L c) ∧ Below w'.heap.size w' w2 := by
  obtain ⟨-, G', h1, -, -⟩ := h
  refine (objects_o h1).mono ?_
  intro e w2 hr
  obtain ⟨ao, c, rfl, -, hb⟩ := hr.form
  exact ⟨ao, c, by rw [adrs_len, hL], hb⟩
theorem hpo_of {v : Value} {w w' w2 : World} {b : Nat} {G : Option Nat} {os : List Ob} {m : Nat} {e : Ending} (h : RetHp v b G os m w e w') (hb : Below w'.heap.size w' w2) : ∃ G', HpO w2 b G' os m := by
  obtain ⟨-, G', h1, -, -⟩ := h
  exact ⟨G', h1.below hb⟩
theorem ptrs_one {w : World} {b : Nat} {os : List Ob} {m : Nat} (h : ∃ G, HpO w b G os m) (a : Int) (ha : -1000000000 ≤ a) (hb : a ≤ 1000000000) {v : Int} (hp : ptrsOf os a = [v]) :
    Calls Try.prog 27 #[.pointer (some ⟨b, 0, none⟩), .int .i64 a] w fun e w2 => ∃ g c, e = .returned (.slice (some ⟨g, 0, none⟩) 1 c) ∧ Below w.heap.size w w2 ∧ w.heap.size ≤ g ∧ w2.cell? ⟨g, 0, none⟩ = some (.int .i64 v) := by
  obtain ⟨G, h⟩ := h
  have F := ptrs_o h a ha hb
  rw [hp] at F
  refine F.mono ?_
  rintro e w2 ⟨u, rfl, h1, h2⟩
  obtain ⟨g, c, rfl, h3, h4, -, h5⟩ := own_at h1 (by simp)
  exact ⟨g, c, rfl, h2, h3, h5 0 (by simp)⟩
theorem nums_none {w : World} {b : Nat} {G : Option Nat} {os : List Ob} {m : Nat} (h : HpO w b G os m) (a : Int) (ha : -1000000000 ≤ a) (hb : a ≤ 1000000000) (hp : numsOf os a = []) :
    Calls Try.prog 28 #[.pointer (some ⟨b, 0, none⟩), .int .i64 a] w fun e w2 => ∃ ao c, e = .returned (.slice ao 0 c) ∧ Below w.heap.size w w2 := by
  have F := nums_o h a ha hb
  rw [hp] at F
  refine F.mono ?_
  intro e w2 hr
  obtain ⟨ao, c, rfl, -, hb⟩ := hr.form
  exact ⟨ao, c, rfl, hb⟩
set_option maxHeartbeats 16000000 in
set_option maxRecDepth 100000 in
theorem over_walk (a : Option Addr) (len cap : Nat) (zs : List Int) (at1 to1 : Int) (w : World) (hA : IsRow .i64 w a len cap zs) (hat : I64 at1) (hto : I64 to1) : Calls Try.prog 7 #[.slice a len cap, .int .i64 at1, .int .i64 to1] w (RetV (.bool true) w) := by
  have HA := Lib.hid hA.arg
  have hlen := hA.arg.1
  have HAT := Lib.hid hat
  have HTO := Lib.hid hto
  clear hA hat hto
  go_enter Try.func7, Try.ntmps7
  go_wp2_with fail
  refine (known_any w).mono ?_
  rintro e wk ⟨rfl, hbk⟩
  have HBK := Lib.hid hbk
  clear hbk
  go_wp2_with fail
  refine (new_any 200 (by omega) (by omega) wk).mono ?_
  rintro e w1 ⟨rfl, hw1⟩
  have HW1 := Lib.hid hw1
  clear hw1
  obtain ⟨b, hb⟩ : ∃ b, b = wk.heap.size := ⟨_, rfl⟩
  rw [← hb]
  have HB0 := Lib.hid hb
  clear hb
  go_wp2_with fail
  refine (new_r 200 w1).mono ?_
  rintro e w2 ⟨rfl, hw2⟩
  have HN : Hid (∃ C, Pr w w2 b w1.heap.size none C [] [] 200) := by
    obtain ⟨C, h, -, -⟩ := Pr.new HBK.out 200 (by omega) HW1.out hw2
    rw [← HB0.out] at h
    exact ⟨C, h⟩
  clear hw2 HW1 HB0 HBK
  obtain ⟨x, hx⟩ : ∃ x, x = w1.heap.size := ⟨_, rfl⟩
  rw [← hx] at HN ⊢
  clear hx
  obtain ⟨C, hp⟩ := HN.out
  have H0 : Hid (PlInv w b x 200 25 (.int .i64 0) w2) := ⟨0, none, C, [], [], Nat.zero_le _, rfl, hp⟩
  clear hp HN
  go_wp2_with fail
  go_loopw [9] (fun iv wr => PlInv w b x 200 25 iv wr) (fun iv _ => 25 - (intOf iv).toNat)
  case atStart => exact H0.out
  case round =>
    clear H0
    obtain ⟨i, G, C, qs, os, hi, rfl, hp⟩ := hrel
    have HP := Lib.hid hp
    clear hp
    by_cases hgo : i < len ∧ i < 25
    · obtain ⟨hil, hi25⟩ := hgo
      have q1 : decide ((i : Int) < (len : Int)) = true := decide_eq_true (by omega)
      have q2 : decide ((i : Int) < 25) = true := decide_eq_true (by omega)
      obtain ⟨y, z, rfl, hc, hz⟩ := (HA.out.below HP.out.hl.bel).2 i hil
      have hzb : I64 (16 * z.tdiv 16) := by
        unfold I64 at *
        have h1 := Int.mul_tdiv_add_tmod z 16
        have h2 := Int.tmod_lt_of_pos z (show (0 : Int) < 16 by omega)
        have h3 := Int.lt_tmod_of_pos z (show (0 : Int) < 16 by omega)
        by_cases h0 : 0 ≤ z
        · have := Int.tmod_nonneg 16 h0
          omega
        · have h4 : (-z).tmod 16 = -(z.tmod 16) := Int.neg_tmod _ _
          have := Int.tmod_nonneg 16 (show 0 ≤ -z by omega)
          omega
      have HZ := Lib.hid hzb
      have F16 := Lib.hid (step_r HP.out (16 * z.tdiv 16) 5 hzb (by unfold I64; omega))
      obtain ⟨d, hd⟩ : ∃ d, d = z.tdiv 16 := ⟨_, rfl⟩
      rw [← hd] at F16 HZ
      have hdw : IntKind.i64.wrap (z.tdiv 16) = d := by rw [IntKind.wrap_i64, hd]; have := tdiv_bd (d := 16) (by omega) hz; unfold I64 at this; omega
      have hdw2 : wrap64 (z.tdiv 16) = d := by rw [hd]; have := tdiv_bd (d := 16) (by omega) hz; unfold I64 at this; unfold wrap64; omega
      have hdm : IntKind.i64.wrap (16 * d) = 16 * d := by rw [IntKind.wrap_i64]; have := HZ.out; unfold I64 at this; omega
      have hdm2 : wrap64 (16 * d) = 16 * d := by have := HZ.out; unfold I64 at this; unfold wrap64; omega
      clear hz hzb hd
      go_wp2_with fail
      try simp only [hdw, hdw2, hdm, hdm2]
      refine F16.out.mono ?_
      rintro e w4 h4
      obtain ⟨rfl, G4, C4, qs4, os4, h5⟩ := h4.out
      have HR : Hid (PlInv w b x 200 25 (.int .i64 ((i : Int) + 1)) w4) := ⟨i + 1, G4, C4, qs4, os4, by omega, by go_num, h5⟩
      clear h4 h5 F16 HP hdw hdw2 hdm hdm2
      go_wp2_with fail
      go_roundw
      case rel => exact HR.out
      case measure => simp [intOf]; omega
    · by_cases hil : i < len
      · have q1 : decide ((i : Int) < (len : Int)) = true := decide_eq_true (by omega)
        have q2 : decide ((i : Int) < 25) = false := decide_eq_false (by omega)
        clear hgo
        have F25 := Lib.hid (objects_o HP.out.hl.hp)
        have hht := HP.out.hl.hp.2.2.2
        have hol := total_len os
        obtain ⟨L, hL⟩ : ∃ L, L = os.length := ⟨_, rfl⟩
        have HLO := Lib.hid hL
        have HLL : Hid (L = (adrs os).length) := by show _ = _; rw [adrs_len, hL]
        have hL2 : L ≤ 200 := by omega
        clear hht hol hL
        go_wp2_with fail
        refine F25.out.mono ?_
        rintro e w1 hr
        obtain ⟨ao1, c1, rfl, ho1, hb1⟩ := hr.form
        have HP1 := Lib.hid (HP.out.below hb1)
        have HO1 := Lib.hid ho1
        have HB1 := Lib.hid hb1
        rw [← HLL.out] at HO1 ⊢
        clear hr ho1 hb1 F25
        by_cases hl2 : L < 2
        · have q3 : decide ((L : Int) < 2) = true := decide_eq_true (by omega)
          go_wp2_with fail
          go_ret
          exact ⟨rfl, HP1.out.hl.bel⟩
        · have q3 : decide ((L : Int) < 2) = false := decide_eq_false (by omega)
          have HOC := Lib.hid (own_at HO1.out (by omega))
          obtain ⟨g, c, hsl, hgB, hg1, -, hcl⟩ := HOC.out
          injection hsl with hs1 hs2 hs3
          subst hs1
          have HGB : Hid (wr.heap.size ≤ g ∧ g < w1.heap.size) := ⟨hgB, hg1⟩
          have HCL := Lib.hid hcl
          clear HOC hgB hg1 hcl hs2 hs3 HO1
          obtain ⟨i1, hi1, -, F⟩ := within_at at1 L HAT.out (by omega) (by omega) w1
          have FA := Lib.hid F
          clear F
          obtain ⟨j1, hj1, -, F⟩ := within_at to1 L HTO.out (by omega) (by omega) w1
          have FB := Lib.hid F
          clear F
          go_wp2_with fail
          refine FA.out.mono ?_
          rintro e w3 ⟨rfl, rfl⟩
          go_wp2_with fail
          refine FB.out.mono ?_
          rintro e w3 ⟨rfl, rfl⟩
          clear FA FB
          obtain ⟨U, hU⟩ : ∃ U, U = total os := ⟨_, rfl⟩
          have F23 : Hid (∀ W, Below w1.heap.size w1 W → Calls Try.prog 23 #[.pointer (some ⟨b, 0, none⟩)] W fun e w' => e = .returned (.int .i64 (U : Nat)) ∧ W = w') := fun W hb => by
            have := used_any (HP1.out.below hb).hl.hp.1
            rw [wds_length, ← hU] at this
            exact this
          have HU := Lib.hid hU
          clear hU
          go_wp2_with fail
          refine (F23.out w1 (Below.refl _ _)).mono ?_
          rintro e w3 ⟨rfl, rfl⟩
          have hoi : i1 < os.length := by rw [← HLO.out]; exact hi1
          have hoj : j1 < os.length := by rw [← HLO.out]; exact hj1
          have HLI := Lib.hid (adrs_at HCL.out hoi)
          have HLJ := Lib.hid (adrs_at HCL.out hoj)
          have HIB := Lib.hid (adr_bd2 hoi HP1.out.hl.hp)
          have HJB := Lib.hid (adr_bd2 hoj HP1.out.hl.hp)
          have HGF : Hid (¬ fp b G C g) := fun e => by have := (HP.out.low g e).2; have := HGB.out.1; omega
          have HOI := Lib.hid hoi
          have HOJ := Lib.hid hoj
          clear hoi hoj
          go_upto_region 15 with fail
          refine wp_region_noPanic ?_
          by_cases hij : i1 = j1
          · subst hij
            have LCB : Hid (∀ W, Below w1.heap.size w1 W → W.cell? ⟨g, i1, none⟩ = some (.int .i64 (adr os i1 : Nat)) ∧ W.cell? ⟨g, i1, none⟩ = some (.int .i64 (adr os i1 : Nat))) := fun W hb => ⟨(Fr.of_below (F := fun _ => False) hb).cellAt HLI.out (fun h => h), (Fr.of_below (F := fun _ => False) hb).cellAt HLI.out (fun h => h)⟩
            have hbx := (Below.refl w1.heap.size w1).drew
            refine wp_region_held_drew (S := fun W => W.cell? ⟨g, i1, none⟩ = some (.int .i64 (adr os i1 : Nat)) ∧ W.cell? ⟨g, i1, none⟩ = some (.int .i64 (adr os i1 : Nat))) (by kernel_rfl) (LCB.out _ hbx) (fun hHeld => ?_)
            generalize w1.drew = X at hHeld hbx ⊢
            have HBX := Lib.hid hbx
            clear hbx
            have F29 := Lib.hid (over_no (HP1.out.below HBX.out).hl.hp (adr os i1 : Nat) (adr os i1 : Nat) HIB.out.1 HIB.out.2 HIB.out.1 HIB.out.2 (.inl rfl))
            have F25 := Lib.hid (fun W (hb : Below w1.heap.size w1 W) => objects_o (HP1.out.below hb).hl.hp)
            generalize adr os i1 = li at *
            refine wpAnyH_take (i := 0) (v := ?v0) rfl (by kernel_rfl) (by kernel_rfl) (by kernel_rfl) (fun _ _ _ h => h) (Or.inl ⟨rfl, fun w' hw' => ?h0⟩) hHeld ?r0
            case h0 =>
              go_simp
              try with_reducible rfl
            simp only [List.getElem_toArray, List.getElem_cons_succ, List.getElem_cons_zero, Act.put, List.setIfInBounds_toArray, List.set_cons_zero, List.set_cons_succ]
            refine wpAnyH_take (i := 1) (v := ?v1) rfl (by kernel_rfl) (by kernel_rfl) (by kernel_rfl) (fun _ _ _ h => h) (Or.inl ⟨rfl, fun w' hw' => ?h1⟩) hHeld ?r1
            case h1 =>
              go_simp
              try with_reducible rfl
            simp only [List.getElem_toArray, List.getElem_cons_succ, List.getElem_cons_zero, Act.put, List.setIfInBounds_toArray, List.set_cons_zero, List.set_cons_succ]
            refine wpAnyH_take (i := 2) (v := ?v2) rfl (by kernel_rfl) (by kernel_rfl) (by kernel_rfl) (fun _ _ _ h => h) (Or.inl ⟨rfl, fun w' hw' => ?h2⟩) hHeld ?r2
            case h2 =>
              go_simp
              try with_reducible rfl
            simp only [List.getElem_toArray, List.getElem_cons_succ, List.getElem_cons_zero, Act.put, List.setIfInBounds_toArray, List.set_cons_zero, List.set_cons_succ]
            refine wpAnyH_take (i := 3) (v := ?v3) rfl (by kernel_rfl) (by kernel_rfl) (by kernel_rfl) (fun _ _ _ h => h) (Or.inl ⟨rfl, fun w' hw' => ?h3⟩) hHeld ?r3
            case h3 =>
              go_simp
              try with_reducible rfl
            simp only [List.getElem_toArray, List.getElem_cons_succ, List.getElem_cons_zero, Act.put, List.setIfInBounds_toArray, List.set_cons_zero, List.set_cons_succ]
            refine wpAnyH_take (i := 4) (v := ?v4) rfl (by kernel_rfl) (by kernel_rfl) (by kernel_rfl) (fun _ _ _ h => h) (Or.inl ⟨rfl, fun w' hw' => ?h4⟩) hHeld ?r4
            case h4 =>
              (obtain ⟨d0, _⟩ := hw'; go_simp)
              try with_reducible rfl
            simp only [List.getElem_toArray, List.getElem_cons_succ, List.getElem_cons_zero, Act.put, List.setIfInBounds_toArray, List.set_cons_zero, List.set_cons_succ]
            refine wpAnyH_take (i := 5) (v := ?v5) rfl (by kernel_rfl) (by kernel_rfl) (by kernel_rfl) (fun _ _ _ h => h) (Or.inl ⟨rfl, fun w' hw' => ?h5⟩) hHeld ?r5
            case h5 =>
              go_simp
              try with_reducible rfl
            simp only [List.getElem_toArray, List.getElem_cons_succ, List.getElem_cons_zero, Act.put, List.setIfInBounds_toArray, List.set_cons_zero, List.set_cons_succ]
            refine wpAnyH_take (i := 6) (v := ?v6) rfl (by kernel_rfl) (by kernel_rfl) (by kernel_rfl) (fun _ _ _ h => h) (Or.inl ⟨rfl, fun w' hw' => ?h6⟩) hHeld ?r6
            case h6 =>
              go_simp
              try with_reducible rfl
            simp only [List.getElem_toArray, List.getElem_cons_succ, List.getElem_cons_zero, Act.put, List.setIfInBounds_toArray, List.set_cons_zero, List.set_cons_succ]
            refine wpAnyH_take (i := 7) (v := ?v7) rfl (by kernel_rfl) (by kernel_rfl) (by kernel_rfl) (fun _ _ _ h => h) (Or.inl ⟨rfl, fun w' hw' => ?h7⟩) hHeld ?r7
            case h7 =>
              go_simp
              try with_reducible rfl
            simp only [List.getElem_toArray, List.getElem_cons_succ, List.getElem_cons_zero, Act.put, List.setIfInBounds_toArray, List.set_cons_zero, List.set_cons_succ]
            refine wpAnyH_take (i := 8) (v := ?v8) rfl (by kernel_rfl) (by kernel_rfl) (by kernel_rfl) (fun _ _ _ h => h) (Or.inl ⟨rfl, fun w' hw' => ?h8⟩) hHeld ?r8
            case h8 =>
              (obtain ⟨_, d0⟩ := hw'; go_simp)
              try with_reducible rfl
            simp only [List.getElem_toArray, List.getElem_cons_succ, List.getElem_cons_zero, Act.put, List.setIfInBounds_toArray, List.set_cons_zero, List.set_cons_succ]
            refine wpAnyH_take (i := 10) (v := ?v9) rfl (by kernel_rfl) (by kernel_rfl) (by kernel_rfl) (fun _ _ _ h => h) (Or.inl ⟨rfl, fun w' hw' => ?h9⟩) hHeld ?r9
            case h9 =>
              go_simp
              try with_reducible rfl
            simp only [List.getElem_toArray, List.getElem_cons_succ, List.getElem_cons_zero, Act.put, List.setIfInBounds_toArray, List.set_cons_zero, List.set_cons_succ]
            refine wpAnyH_take (i := 11) (v := ?v10) rfl (by kernel_rfl) (by kernel_rfl) (by kernel_rfl) (fun _ _ _ h => h) (Or.inl ⟨rfl, fun w' hw' => ?h10⟩) hHeld ?r10
            case h10 =>
              go_simp
              try with_reducible rfl
            simp only [List.getElem_toArray, List.getElem_cons_succ, List.getElem_cons_zero, Act.put, List.setIfInBounds_toArray, List.set_cons_zero, List.set_cons_succ]
            refine wpAnyH_take (i := 12) (v := Value.bool false) rfl (by kernel_rfl) (by kernel_rfl) (by kernel_rfl) (fun _ _ _ h => h) (Or.inl ⟨rfl, fun w' hw' => ?_⟩) hHeld ?_
            · go_simp
            simp only [List.getElem_toArray, List.getElem_cons_succ, List.getElem_cons_zero, Act.put, List.setIfInBounds_toArray, List.set_cons_zero, List.set_cons_succ]
            refine wpAnyH_ready (rs := [9]) (by kernel_rfl) (by simp) ?_
            refine (AllReadyH.cons rfl (fun K hK => ?_) AllReadyH.nil)
            go_simp
            refine F29.out.mono ?_
            rintro e u1 ⟨rfl, hb1⟩
            have B1 := Lib.hid (HBX.out.trans (hb1.mono HBX.out.size))
            have hS1 := LCB.out u1 B1.out
            clear hb1 F29
            refine hK.out _ _ hS1 (fun hHeld => ?_)
            clear hK K
            try simp only [List.getElem_toArray, List.getElem_cons_succ, List.getElem_cons_zero, Act.put, List.setIfInBounds_toArray, List.set_cons_zero, List.set_cons_succ]
            refine wpAnyH_take (i := 13) (v := ?v12) rfl (by kernel_rfl) (by kernel_rfl) (by kernel_rfl) (fun _ _ _ h => h) (Or.inl ⟨rfl, fun w' hw' => ?h12⟩) hHeld ?r12
            case h12 =>
              go_simp
              try with_reducible rfl
            simp only [List.getElem_toArray, List.getElem_cons_succ, List.getElem_cons_zero, Act.put, List.setIfInBounds_toArray, List.set_cons_zero, List.set_cons_succ]
            refine wpAnyH_take (i := 14) (v := ?v13) rfl (by kernel_rfl) (by kernel_rfl) (by kernel_rfl) (fun _ _ _ h => h) (Or.inl ⟨rfl, fun w' hw' => ?h13⟩) hHeld ?r13
            case h13 =>
              go_simp
              try with_reducible rfl
            simp only [List.getElem_toArray, List.getElem_cons_succ, List.getElem_cons_zero, Act.put, List.setIfInBounds_toArray, List.set_cons_zero, List.set_cons_succ]
            refine wpAnyH_take (i := 15) (v := ?v14) rfl (by kernel_rfl) (by kernel_rfl) (by kernel_rfl) (fun _ _ _ h => h) (Or.inl ⟨rfl, fun w' hw' => ?h14⟩) hHeld ?r14
            case h14 =>
              go_simp
              try with_reducible rfl
            simp only [List.getElem_toArray, List.getElem_cons_succ, List.getElem_cons_zero, Act.put, List.setIfInBounds_toArray, List.set_cons_zero, List.set_cons_succ]
            refine wpAnyH_take (i := 17) (v := ?v15) rfl (by kernel_rfl) (by kernel_rfl) (by kernel_rfl) (fun _ _ _ h => h) (Or.inl ⟨rfl, fun w' hw' => ?h15⟩) hHeld ?r15
            case h15 =>
              go_simp
              try with_reducible rfl
            simp only [List.getElem_toArray, List.getElem_cons_succ, List.getElem_cons_zero, Act.put, List.setIfInBounds_toArray, List.set_cons_zero, List.set_cons_succ]
            refine wpAnyH_ready (rs := [16]) (by kernel_rfl) (by simp) ?_
            refine (AllReadyH.cons rfl (fun K hK => ?_) AllReadyH.nil)
            go_simp
            refine (F23.out u1 B1.out).mono ?_
            rintro e u2 ⟨rfl, rfl⟩
            refine hK.out _ _ hHeld (fun hHeld => ?_)
            clear hK K
            try simp only [List.getElem_toArray, List.getElem_cons_succ, List.getElem_cons_zero, Act.put, List.setIfInBounds_toArray, List.set_cons_zero, List.set_cons_succ]
            refine wpAnyH_take (i := 18) (v := ?v16) rfl (by kernel_rfl) (by kernel_rfl) (by kernel_rfl) (fun _ _ _ h => h) (Or.inl ⟨rfl, fun w' hw' => ?h16⟩) hHeld ?r16
            case h16 =>
              go_simp
              try with_reducible rfl
            simp only [List.getElem_toArray, List.getElem_cons_succ, List.getElem_cons_zero, Act.put, List.setIfInBounds_toArray, List.set_cons_zero, List.set_cons_succ]
            refine wpAnyH_take (i := 19) (v := ?v17) rfl (by kernel_rfl) (by kernel_rfl) (by kernel_rfl) (fun _ _ _ h => h) (Or.inl ⟨rfl, fun w' hw' => ?h17⟩) hHeld ?r17
            case h17 =>
              go_simp
              try with_reducible rfl
            simp only [List.getElem_toArray, List.getElem_cons_succ, List.getElem_cons_zero, Act.put, List.setIfInBounds_toArray, List.set_cons_zero, List.set_cons_succ]
            refine wpAnyH_take (i := 20) (v := ?v18) rfl (by kernel_rfl) (by kernel_rfl) (by kernel_rfl) (fun _ _ _ h => h) (Or.inl ⟨rfl, fun w' hw' => ?h18⟩) hHeld ?r18
            case h18 =>
              go_simp
              try with_reducible rfl
            simp only [List.getElem_toArray, List.getElem_cons_succ, List.getElem_cons_zero, Act.put, List.setIfInBounds_toArray, List.set_cons_zero, List.set_cons_succ]
            refine wpAnyH_take (i := 21) (v := ?v19) rfl (by kernel_rfl) (by kernel_rfl) (by kernel_rfl) (fun _ _ _ h => h) (Or.inl ⟨rfl, fun w' hw' => ?h19⟩) hHeld ?r19
            case h19 =>
              go_simp
              try with_reducible rfl
            simp only [List.getElem_toArray, List.getElem_cons_succ, List.getElem_cons_zero, Act.put, List.setIfInBounds_toArray, List.set_cons_zero, List.set_cons_succ]
            refine wpAnyH_take (i := 24) (v := ?v20) rfl (by kernel_rfl) (by kernel_rfl) (by kernel_rfl) (fun _ _ _ h => h) (Or.inl ⟨rfl, fun w' hw' => ?h20⟩) hHeld ?r20
            case h20 =>
              go_simp
              try with_reducible rfl
            simp only [List.getElem_toArray, List.getElem_cons_succ, List.getElem_cons_zero, Act.put, List.setIfInBounds_toArray, List.set_cons_zero, List.set_cons_succ]
            refine wpAnyH_take (i := 25) (v := ?v21) rfl (by kernel_rfl) (by kernel_rfl) (by kernel_rfl) (fun _ _ _ h => h) (Or.inl ⟨rfl, fun w' hw' => ?h21⟩) hHeld ?r21
            case h21 =>
              go_simp
              try with_reducible rfl
            simp only [List.getElem_toArray, List.getElem_cons_succ, List.getElem_cons_zero, Act.put, List.setIfInBounds_toArray, List.set_cons_zero, List.set_cons_succ]
            refine wpAnyH_ready (rs := [22]) (by kernel_rfl) (by simp) ?_
            refine (AllReadyH.cons rfl (fun K hK => ?_) AllReadyH.nil)
            go_simp
            refine (F25.out u1 B1.out).mono ?_
            rintro e u3 hr
            obtain ⟨ao3, c3, rfl, -, hb3⟩ := hr.form
            have B3 := Lib.hid (B1.out.trans (hb3.mono B1.out.size))
            have hS3 := LCB.out u3 B3.out
            rw [← HLL.out]
            clear hr hb3
            refine hK.out _ _ hS3 (fun hHeld => ?_)
            clear hK K
            try simp only [List.getElem_toArray, List.getElem_cons_succ, List.getElem_cons_zero, Act.put, List.setIfInBounds_toArray, List.set_cons_zero, List.set_cons_succ]
            refine wpAnyH_take (i := 23) (v := ?v22) rfl (by kernel_rfl) (by kernel_rfl) (by kernel_rfl) (fun _ _ _ h => h) (Or.inl ⟨rfl, fun w' hw' => ?h22⟩) hHeld ?r22
            case h22 =>
              go_simp
              try with_reducible rfl
            simp only [List.getElem_toArray, List.getElem_cons_succ, List.getElem_cons_zero, Act.put, List.setIfInBounds_toArray, List.set_cons_zero, List.set_cons_succ]
            refine wpAnyH_take (i := 26) (v := ?v23) rfl (by kernel_rfl) (by kernel_rfl) (by kernel_rfl) (fun _ _ _ h => h) (Or.inl ⟨rfl, fun w' hw' => ?h23⟩) hHeld ?r23
            case h23 =>
              go_simp
              try with_reducible rfl
            simp only [List.getElem_toArray, List.getElem_cons_succ, List.getElem_cons_zero, Act.put, List.setIfInBounds_toArray, List.set_cons_zero, List.set_cons_succ]
            refine wpAnyH_take (i := 27) (v := ?v24) rfl (by kernel_rfl) (by kernel_rfl) (by kernel_rfl) (fun _ _ _ h => h) (Or.inl ⟨rfl, fun w' hw' => ?h24⟩) hHeld ?r24
            case h24 =>
              go_simp
              try with_reducible rfl
            simp only [List.getElem_toArray, List.getElem_cons_succ, List.getElem_cons_zero, Act.put, List.setIfInBounds_toArray, List.set_cons_zero, List.set_cons_succ]
            refine wpAnyH_done (by kernel_rfl) ?_ _
            refine NoPanic.normal ?_
            clear hHeld
            go_wp2_with fail
            go_ret
            exact ⟨rfl, HP1.out.hl.bel.trans (B3.out.mono HP1.out.hl.bel.size)⟩
          · have Q3 : Hid ((i1 : Int) ≠ (j1 : Int)) := fun e => hij (by omega)
            have NEA : Hid (((adr os i1 : Nat) : Int) ≠ ((adr os j1 : Nat) : Int)) := fun e => hij (adr_inj HOI.out HOJ.out (by omega))
            have OF := Lib.hid (over_facts HP1.out.hl.hp.2.1 HOI.out (adr os j1 : Nat))
            have hbx := (Below.refl w1.heap.size w1).drew
            have hLX : w1.drew.cell? ⟨g, i1, none⟩ = some (.int .i64 (adr os i1 : Nat)) ∧ w1.drew.cell? ⟨g, j1, none⟩ = some (.int .i64 (adr os j1 : Nat)) := ⟨(Fr.of_below (F := fun _ => False) hbx).cellAt HLI.out (fun h => h), (Fr.of_below (F := fun _ => False) hbx).cellAt HLJ.out (fun h => h)⟩
            refine wp_region_held_drew (S := fun W => W.cell? ⟨g, i1, none⟩ = some (.int .i64 (adr os i1 : Nat)) ∧ W.cell? ⟨g, j1, none⟩ = some (.int .i64 (adr os j1 : Nat))) (by kernel_rfl) hLX (fun hHeld => ?_)
            generalize w1.drew = X at hHeld hbx ⊢
            have HBX := Lib.hid hbx
            clear hbx hLX
            have F29 := Lib.hid (over_yes (HP1.out.below HBX.out).hl.hp (adr os i1 : Nat) (adr os j1 : Nat) HIB.out.1 HIB.out.2 HJB.out.1 HJB.out.2 i1 (loc_adr os i1 HOI.out) NEA.out (by rw [ob_loc (loc_adr os j1 HOJ.out)]; rfl))
            have RO : Hid (∀ V, Rh V x C qs os 200 → Calls Try.prog 30 #[.pointer (some ⟨x, 0, none⟩), .int .i64 (adr os i1 : Nat), .int .i64 (adr os j1 : Nat)] V (RetR (.bool true) x C (upd os i1 (fun o => overO o (adr os j1 : Nat))) 200 V)) := fun V hV =>
              rover_yes hV (adr os i1 : Nat) (adr os j1 : Nat) i1 (loc_adr os i1 HOI.out) NEA.out (by rw [ob_loc (loc_adr os j1 HOJ.out)]; rfl)
            obtain ⟨os', hos⟩ : ∃ os', os' = upd os i1 (fun o => overO o (adr os j1 : Nat)) := ⟨_, rfl⟩
            rw [← hos] at F29 RO OF
            clear hos
            have OFT : Hid (total os' = U) := by show _ = _; rw [OF.out.1, HU.out]
            have OFL : Hid (os'.length = L) := by show _ = _; rw [OF.out.2.1, HLO.out]
            have OFP := Lib.hid OF.out.2.2
            clear OF NEA
            have LCO : Hid (∀ W, RetHp (.bool true) b G os' 200 X (.returned (.bool true)) W → W.cell? ⟨g, i1, none⟩ = some (.int .i64 (adr os i1 : Nat)) ∧ W.cell? ⟨g, j1, none⟩ = some (.int .i64 (adr os j1 : Nat))) := fun W h => by
              obtain ⟨-, G', -, h2, -⟩ := h
              have hn : ¬ own b G g := fun e => HGF.out (.inl e)
              exact ⟨h2.cellAt ((Fr.of_below (F := fun _ => False) HBX.out).cellAt HLI.out (fun h => h)) hn, h2.cellAt ((Fr.of_below (F := fun _ => False) HBX.out).cellAt HLJ.out (fun h => h)) hn⟩
            have LCP : Hid (∀ V W, (V.cell? ⟨g, i1, none⟩ = some (.int .i64 (adr os i1 : Nat)) ∧ V.cell? ⟨g, j1, none⟩ = some (.int .i64 (adr os j1 : Nat))) → Below V.heap.size V W → W.cell? ⟨g, i1, none⟩ = some (.int .i64 (adr os i1 : Nat)) ∧ W.cell? ⟨g, j1, none⟩ = some (.int .i64 (adr os j1 : Nat))) :=
              fun V W h hb => ⟨(Fr.of_below (F := fun _ => False) hb).cellAt h.1 (fun h => h), (Fr.of_below (F := fun _ => False) hb).cellAt h.2 (fun h => h)⟩
            generalize adr os i1 = li at *
            generalize adr os j1 = lj at *
            clear F23 HLI HLJ
            refine wpAnyH_take (i := 0) (v := ?v25) rfl (by kernel_rfl) (by kernel_rfl) (by kernel_rfl) (fun _ _ _ h => h) (Or.inl ⟨rfl, fun w' hw' => ?h25⟩) hHeld ?r25
            case h25 =>
              go_simp
              try with_reducible rfl
            simp only [List.getElem_toArray, List.getElem_cons_succ, List.getElem_cons_zero, Act.put, List.setIfInBounds_toArray, List.set_cons_zero, List.set_cons_succ]
            refine wpAnyH_take (i := 1) (v := ?v26) rfl (by kernel_rfl) (by kernel_rfl) (by kernel_rfl) (fun _ _ _ h => h) (Or.inl ⟨rfl, fun w' hw' => ?h26⟩) hHeld ?r26
            case h26 =>
              go_simp
              try with_reducible rfl
            simp only [List.getElem_toArray, List.getElem_cons_succ, List.getElem_cons_zero, Act.put, List.setIfInBounds_toArray, List.set_cons_zero, List.set_cons_succ]
            refine wpAnyH_take (i := 2) (v := ?v27) rfl (by kernel_rfl) (by kernel_rfl) (by kernel_rfl) (fun _ _ _ h => h) (Or.inl ⟨rfl, fun w' hw' => ?h27⟩) hHeld ?r27
            case h27 =>
              go_simp
              try with_reducible rfl
            simp only [List.getElem_toArray, List.getElem_cons_succ, List.getElem_cons_zero, Act.put, List.setIfInBounds_toArray, List.set_cons_zero, List.set_cons_succ]
            refine wpAnyH_take (i := 3) (v := ?v28) rfl (by kernel_rfl) (by kernel_rfl) (by kernel_rfl) (fun _ _ _ h => h) (Or.inl ⟨rfl, fun w' hw' => ?h28⟩) hHeld ?r28
            case h28 =>
              go_simp
              try with_reducible rfl
            simp only [List.getElem_toArray, List.getElem_cons_succ, List.getElem_cons_zero, Act.put, List.setIfInBounds_toArray, List.set_cons_zero, List.set_cons_succ]
            refine wpAnyH_take (i := 4) (v := ?v29) rfl (by kernel_rfl) (by kernel_rfl) (by kernel_rfl) (fun _ _ _ h => h) (Or.inl ⟨rfl, fun w' hw' => ?h29⟩) hHeld ?r29
            case h29 =>
              (obtain ⟨d0, _⟩ := hw'; go_simp)
              try with_reducible rfl
            simp only [List.getElem_toArray, List.getElem_cons_succ, List.getElem_cons_zero, Act.put, List.setIfInBounds_toArray, List.set_cons_zero, List.set_cons_succ]
            refine wpAnyH_take (i := 5) (v := ?v30) rfl (by kernel_rfl) (by kernel_rfl) (by kernel_rfl) (fun _ _ _ h => h) (Or.inl ⟨rfl, fun w' hw' => ?h30⟩) hHeld ?r30
            case h30 =>
              go_simp
              try with_reducible rfl
            simp only [List.getElem_toArray, List.getElem_cons_succ, List.getElem_cons_zero, Act.put, List.setIfInBounds_toArray, List.set_cons_zero, List.set_cons_succ]
            refine wpAnyH_take (i := 6) (v := ?v31) rfl (by kernel_rfl) (by kernel_rfl) (by kernel_rfl) (fun _ _ _ h => h) (Or.inl ⟨rfl, fun w' hw' => ?h31⟩) hHeld ?r31
            case h31 =>
              go_simp
              try with_reducible rfl
            simp only [List.getElem_toArray, List.getElem_cons_succ, List.getElem_cons_zero, Act.put, List.setIfInBounds_toArray, List.set_cons_zero, List.set_cons_succ]
            refine wpAnyH_take (i := 7) (v := ?v32) rfl (by kernel_rfl) (by kernel_rfl) (by kernel_rfl) (fun _ _ _ h => h) (Or.inl ⟨rfl, fun w' hw' => ?h32⟩) hHeld ?r32
            case h32 =>
              go_simp
              try with_reducible rfl
            simp only [List.getElem_toArray, List.getElem_cons_succ, List.getElem_cons_zero, Act.put, List.setIfInBounds_toArray, List.set_cons_zero, List.set_cons_succ]
            refine wpAnyH_take (i := 8) (v := ?v33) rfl (by kernel_rfl) (by kernel_rfl) (by kernel_rfl) (fun _ _ _ h => h) (Or.inl ⟨rfl, fun w' hw' => ?h33⟩) hHeld ?r33
            case h33 =>
              (obtain ⟨_, d0⟩ := hw'; go_simp)
              try with_reducible rfl
            simp only [List.getElem_toArray, List.getElem_cons_succ, List.getElem_cons_zero, Act.put, List.setIfInBounds_toArray, List.set_cons_zero, List.set_cons_succ]
            refine wpAnyH_take (i := 10) (v := ?v34) rfl (by kernel_rfl) (by kernel_rfl) (by kernel_rfl) (fun _ _ _ h => h) (Or.inl ⟨rfl, fun w' hw' => ?h34⟩) hHeld ?r34
            case h34 =>
              go_simp
              try with_reducible rfl
            simp only [List.getElem_toArray, List.getElem_cons_succ, List.getElem_cons_zero, Act.put, List.setIfInBounds_toArray, List.set_cons_zero, List.set_cons_succ]
            refine wpAnyH_take (i := 11) (v := ?v35) rfl (by kernel_rfl) (by kernel_rfl) (by kernel_rfl) (fun _ _ _ h => h) (Or.inl ⟨rfl, fun w' hw' => ?h35⟩) hHeld ?r35
            case h35 =>
              go_simp
              try with_reducible rfl
            simp only [List.getElem_toArray, List.getElem_cons_succ, List.getElem_cons_zero, Act.put, List.setIfInBounds_toArray, List.set_cons_zero, List.set_cons_succ]
            refine wpAnyH_take (i := 12) (v := Value.bool true) rfl (by kernel_rfl) (by kernel_rfl) (by kernel_rfl) (fun _ _ _ h => h) (Or.inl ⟨rfl, fun w' hw' => ?_⟩) hHeld ?_
            · (go_simp; try (first | exact Q3.out | simp [Q3.out]))
            simp only [List.getElem_toArray, List.getElem_cons_succ, List.getElem_cons_zero, Act.put, List.setIfInBounds_toArray, List.set_cons_zero, List.set_cons_succ]
            refine wpAnyH_ready (rs := [9]) (by kernel_rfl) (by simp) ?_
            refine (AllReadyH.cons rfl (fun K hK => ?_) AllReadyH.nil)
            go_simp
            refine F29.out.mono ?_
            rintro e u1 h1
            obtain rfl := h1.1
            have P1 := Lib.hid h1
            have hS1 := LCO.out u1 h1
            have F23 := Lib.hid (used_o P1.out OFT.out)
            have F25 := Lib.hid (objs_o P1.out OFL.out)
            clear h1 F29
            refine hK.out _ _ hS1 (fun hHeld => ?_)
            clear hK K
            try simp only [List.getElem_toArray, List.getElem_cons_succ, List.getElem_cons_zero, Act.put, List.setIfInBounds_toArray, List.set_cons_zero, List.set_cons_succ]
            refine wpAnyH_take (i := 13) (v := ?v37) rfl (by kernel_rfl) (by kernel_rfl) (by kernel_rfl) (fun _ _ _ h => h) (Or.inl ⟨rfl, fun w' hw' => ?h37⟩) hHeld ?r37
            case h37 =>
              go_simp
              try with_reducible rfl
            simp only [List.getElem_toArray, List.getElem_cons_succ, List.getElem_cons_zero, Act.put, List.setIfInBounds_toArray, List.set_cons_zero, List.set_cons_succ]
            refine wpAnyH_take (i := 14) (v := ?v38) rfl (by kernel_rfl) (by kernel_rfl) (by kernel_rfl) (fun _ _ _ h => h) (Or.inl ⟨rfl, fun w' hw' => ?h38⟩) hHeld ?r38
            case h38 =>
              go_simp
              try with_reducible rfl
            simp only [List.getElem_toArray, List.getElem_cons_succ, List.getElem_cons_zero, Act.put, List.setIfInBounds_toArray, List.set_cons_zero, List.set_cons_succ]
            refine wpAnyH_take (i := 15) (v := ?v39) rfl (by kernel_rfl) (by kernel_rfl) (by kernel_rfl) (fun _ _ _ h => h) (Or.inl ⟨rfl, fun w' hw' => ?h39⟩) hHeld ?r39
            case h39 =>
              go_simp
              try with_reducible rfl
            simp only [List.getElem_toArray, List.getElem_cons_succ, List.getElem_cons_zero, Act.put, List.setIfInBounds_toArray, List.set_cons_zero, List.set_cons_succ]
            refine wpAnyH_take (i := 17) (v := ?v40) rfl (by kernel_rfl) (by kernel_rfl) (by kernel_rfl) (fun _ _ _ h => h) (Or.inl ⟨rfl, fun w' hw' => ?h40⟩) hHeld ?r40
            case h40 =>
              go_simp
              try with_reducible rfl
            simp only [List.getElem_toArray, List.getElem_cons_succ, List.getElem_cons_zero, Act.put, List.setIfInBounds_toArray, List.set_cons_zero, List.set_cons_succ]
            refine wpAnyH_ready (rs := [16]) (by kernel_rfl) (by simp) ?_
            refine (AllReadyH.cons rfl (fun K hK => ?_) AllReadyH.nil)
            go_simp
            refine F23.out.mono ?_
            rintro e u2 ⟨rfl, rfl⟩
            refine hK.out _ _ hHeld (fun hHeld => ?_)
            clear hK K
            try simp only [List.getElem_toArray, List.getElem_cons_succ, List.getElem_cons_zero, Act.put, List.setIfInBounds_toArray, List.set_cons_zero, List.set_cons_succ]
            refine wpAnyH_take (i := 18) (v := ?v41) rfl (by kernel_rfl) (by kernel_rfl) (by kernel_rfl) (fun _ _ _ h => h) (Or.inl ⟨rfl, fun w' hw' => ?h41⟩) hHeld ?r41
            case h41 =>
              go_simp
              try with_reducible rfl
            simp only [List.getElem_toArray, List.getElem_cons_succ, List.getElem_cons_zero, Act.put, List.setIfInBounds_toArray, List.set_cons_zero, List.set_cons_succ]
            refine wpAnyH_take (i := 19) (v := ?v42) rfl (by kernel_rfl) (by kernel_rfl) (by kernel_rfl) (fun _ _ _ h => h) (Or.inl ⟨rfl, fun w' hw' => ?h42⟩) hHeld ?r42
            case h42 =>
              go_simp
              try with_reducible rfl
            simp only [List.getElem_toArray, List.getElem_cons_succ, List.getElem_cons_zero, Act.put, List.setIfInBounds_toArray, List.set_cons_zero, List.set_cons_succ]
            refine wpAnyH_take (i := 20) (v := ?v43) rfl (by kernel_rfl) (by kernel_rfl) (by kernel_rfl) (fun _ _ _ h => h) (Or.inl ⟨rfl, fun w' hw' => ?h43⟩) hHeld ?r43
            case h43 =>
              go_simp
              try with_reducible rfl
            simp only [List.getElem_toArray, List.getElem_cons_succ, List.getElem_cons_zero, Act.put, List.setIfInBounds_toArray, List.set_cons_zero, List.set_cons_succ]
            refine wpAnyH_take (i := 21) (v := ?v44) rfl (by kernel_rfl) (by kernel_rfl) (by kernel_rfl) (fun _ _ _ h => h) (Or.inl ⟨rfl, fun w' hw' => ?h44⟩) hHeld ?r44
            case h44 =>
              go_simp
              try with_reducible rfl
            simp only [List.getElem_toArray, List.getElem_cons_succ, List.getElem_cons_zero, Act.put, List.setIfInBounds_toArray, List.set_cons_zero, List.set_cons_succ]
            refine wpAnyH_take (i := 24) (v := ?v45) rfl (by kernel_rfl) (by kernel_rfl) (by kernel_rfl) (fun _ _ _ h => h) (Or.inl ⟨rfl, fun w' hw' => ?h45⟩) hHeld ?r45
            case h45 =>
              go_simp
              try with_reducible rfl
            simp only [List.getElem_toArray, List.getElem_cons_succ, List.getElem_cons_zero, Act.put, List.setIfInBounds_toArray, List.set_cons_zero, List.set_cons_succ]
            refine wpAnyH_take (i := 25) (v := ?v46) rfl (by kernel_rfl) (by kernel_rfl) (by kernel_rfl) (fun _ _ _ h => h) (Or.inl ⟨rfl, fun w' hw' => ?h46⟩) hHeld ?r46
            case h46 =>
              go_simp
              try with_reducible rfl
            simp only [List.getElem_toArray, List.getElem_cons_succ, List.getElem_cons_zero, Act.put, List.setIfInBounds_toArray, List.set_cons_zero, List.set_cons_succ]
            refine wpAnyH_ready (rs := [22]) (by kernel_rfl) (by simp) ?_
            refine (AllReadyH.cons rfl (fun K hK => ?_) AllReadyH.nil)
            go_simp
            refine F25.out.mono ?_
            rintro e u3 ⟨ao3, c3, rfl, hb3⟩
            have B3 := Lib.hid hb3
            have hS3 := LCP.out u1 u3 hHeld B3.out
            clear hb3 F25
            refine hK.out _ _ hS3 (fun hHeld => ?_)
            clear hK K
            try simp only [List.getElem_toArray, List.getElem_cons_succ, List.getElem_cons_zero, Act.put, List.setIfInBounds_toArray, List.set_cons_zero, List.set_cons_succ]
            refine wpAnyH_take (i := 23) (v := ?v47) rfl (by kernel_rfl) (by kernel_rfl) (by kernel_rfl) (fun _ _ _ h => h) (Or.inl ⟨rfl, fun w' hw' => ?h47⟩) hHeld ?r47
            case h47 =>
              go_simp
              try with_reducible rfl
            simp only [List.getElem_toArray, List.getElem_cons_succ, List.getElem_cons_zero, Act.put, List.setIfInBounds_toArray, List.set_cons_zero, List.set_cons_succ]
            refine wpAnyH_take (i := 26) (v := ?v48) rfl (by kernel_rfl) (by kernel_rfl) (by kernel_rfl) (fun _ _ _ h => h) (Or.inl ⟨rfl, fun w' hw' => ?h48⟩) hHeld ?r48
            case h48 =>
              go_simp
              try with_reducible rfl
            simp only [List.getElem_toArray, List.getElem_cons_succ, List.getElem_cons_zero, Act.put, List.setIfInBounds_toArray, List.set_cons_zero, List.set_cons_succ]
            refine wpAnyH_take (i := 27) (v := ?v49) rfl (by kernel_rfl) (by kernel_rfl) (by kernel_rfl) (fun _ _ _ h => h) (Or.inl ⟨rfl, fun w' hw' => ?h49⟩) hHeld ?r49
            case h49 =>
              go_simp
              try with_reducible rfl
            simp only [List.getElem_toArray, List.getElem_cons_succ, List.getElem_cons_zero, Act.put, List.setIfInBounds_toArray, List.set_cons_zero, List.set_cons_succ]
            refine wpAnyH_done (by kernel_rfl) ?_ _
            refine NoPanic.normal ?_
            have hHeld0 := hHeld
            clear hHeld
            have HH3 := Lib.hid hHeld0
            clear hHeld0
            have H3 := Lib.hid (hpo_of P1.out B3.out)
            have F27 := Lib.hid (ptrs_one H3.out (li : Int) HIB.out.1 HIB.out.2 OFP.out.1)
            obtain ⟨d0, d1⟩ := HH3.out
            have hq : ((i1 : Int) = (j1 : Int)) = False := eq_false Q3.out
            have hq2 : decide ((i1 : Int) = (j1 : Int)) = false := decide_eq_false Q3.out
            go_wp2_with fail
            refine F27.out.mono ?_
            rintro e u4 ⟨gp, cp, rfl, hb4, hgp, hgp2⟩
            have B4 := Lib.hid hb4
            have GP := Lib.hid hgp
            have GPC := Lib.hid hgp2
            have hL4 := LCP.out u3 u4 HH3.out hb4
            clear hb4 hgp hgp2 d0 d1 F27
            go_upto_region 20 with fail
            refine wp_region_noPanic ?_
            have hbx := (Below.refl u4.heap.size u4).drew
            refine wp_region_held_drew (S := fun W => W.cell? ⟨g, i1, none⟩ = some (.int .i64 (li : Nat)) ∧ W.cell? ⟨g, j1, none⟩ = some (.int .i64 (lj : Nat))) (by kernel_rfl) (LCP.out u4 _ hL4 hbx) (fun hHeld => ?_)
            generalize u4.drew = X2 at hHeld hbx ⊢
            have HB2 := Lib.hid hbx
            clear hbx hL4
            have B5 := Lib.hid (B3.out.trans ((B4.out.trans (HB2.out.mono B4.out.size)).mono B3.out.size))
            have F30 := Lib.hid (RO.out X2 (HP1.out.rh_own HBX.out P1.out B5.out))
            have CS := Lib.hid (HP1.out.rh_own HBX.out P1.out (Below.refl u1.heap.size u1)).fresh
            have LC6 : Hid (∀ W, RetR (.bool true) x C os' 200 X2 (.returned (.bool true)) W → W.cell? ⟨g, i1, none⟩ = some (.int .i64 (li : Nat)) ∧ W.cell? ⟨g, j1, none⟩ = some (.int .i64 (lj : Nat))) := fun W h => by
              obtain ⟨-, C', qs', -, h2, -⟩ := h
              have hn : ¬ C g ≠ 0 := fun e => HGF.out (.inr e)
              have hL := LCP.out u3 X2 HH3.out (B4.out.trans (HB2.out.mono B4.out.size))
              exact ⟨h2.cellAt hL.1 hn, h2.cellAt hL.2 hn⟩
            refine wpAnyH_take (i := 0) (v := ?v50) rfl (by kernel_rfl) (by kernel_rfl) (by kernel_rfl) (fun _ _ _ h => h) (Or.inl ⟨rfl, fun w' hw' => ?h50⟩) hHeld ?r50
            case h50 =>
              go_simp
              try with_reducible rfl
            simp only [List.getElem_toArray, List.getElem_cons_succ, List.getElem_cons_zero, Act.put, List.setIfInBounds_toArray, List.set_cons_zero, List.set_cons_succ]
            refine wpAnyH_take (i := 1) (v := ?v51) rfl (by kernel_rfl) (by kernel_rfl) (by kernel_rfl) (fun _ _ _ h => h) (Or.inl ⟨rfl, fun w' hw' => ?h51⟩) hHeld ?r51
            case h51 =>
              go_simp
              try with_reducible rfl
            simp only [List.getElem_toArray, List.getElem_cons_succ, List.getElem_cons_zero, Act.put, List.setIfInBounds_toArray, List.set_cons_zero, List.set_cons_succ]
            refine wpAnyH_take (i := 2) (v := ?v52) rfl (by kernel_rfl) (by kernel_rfl) (by kernel_rfl) (fun _ _ _ h => h) (Or.inl ⟨rfl, fun w' hw' => ?h52⟩) hHeld ?r52
            case h52 =>
              go_simp
              try with_reducible rfl
            simp only [List.getElem_toArray, List.getElem_cons_succ, List.getElem_cons_zero, Act.put, List.setIfInBounds_toArray, List.set_cons_zero, List.set_cons_succ]
            refine wpAnyH_take (i := 3) (v := ?v53) rfl (by kernel_rfl) (by kernel_rfl) (by kernel_rfl) (fun _ _ _ h => h) (Or.inl ⟨rfl, fun w' hw' => ?h53⟩) hHeld ?r53
            case h53 =>
              go_simp
              try with_reducible rfl
            simp only [List.getElem_toArray, List.getElem_cons_succ, List.getElem_cons_zero, Act.put, List.setIfInBounds_toArray, List.set_cons_zero, List.set_cons_succ]
            refine wpAnyH_take (i := 4) (v := ?v54) rfl (by kernel_rfl) (by kernel_rfl) (by kernel_rfl) (fun _ _ _ h => h) (Or.inl ⟨rfl, fun w' hw' => ?h54⟩) hHeld ?r54
            case h54 =>
              (obtain ⟨d0, _⟩ := hw'; go_simp)
              try with_reducible rfl
            simp only [List.getElem_toArray, List.getElem_cons_succ, List.getElem_cons_zero, Act.put, List.setIfInBounds_toArray, List.set_cons_zero, List.set_cons_succ]
            refine wpAnyH_take (i := 5) (v := ?v55) rfl (by kernel_rfl) (by kernel_rfl) (by kernel_rfl) (fun _ _ _ h => h) (Or.inl ⟨rfl, fun w' hw' => ?h55⟩) hHeld ?r55
            case h55 =>
              go_simp
              try with_reducible rfl
            simp only [List.getElem_toArray, List.getElem_cons_succ, List.getElem_cons_zero, Act.put, List.setIfInBounds_toArray, List.set_cons_zero, List.set_cons_succ]
            refine wpAnyH_take (i := 6) (v := ?v56) rfl (by kernel_rfl) (by kernel_rfl) (by kernel_rfl) (fun _ _ _ h => h) (Or.inl ⟨rfl, fun w' hw' => ?h56⟩) hHeld ?r56
            case h56 =>
              go_simp
              try with_reducible rfl
            simp only [List.getElem_toArray, List.getElem_cons_succ, List.getElem_cons_zero, Act.put, List.setIfInBounds_toArray, List.set_cons_zero, List.set_cons_succ]
            refine wpAnyH_take (i := 7) (v := ?v57) rfl (by kernel_rfl) (by kernel_rfl) (by kernel_rfl) (fun _ _ _ h => h) (Or.inl ⟨rfl, fun w' hw' => ?h57⟩) hHeld ?r57
            case h57 =>
              go_simp
              try with_reducible rfl
            simp only [List.getElem_toArray, List.getElem_cons_succ, List.getElem_cons_zero, Act.put, List.setIfInBounds_toArray, List.set_cons_zero, List.set_cons_succ]
            refine wpAnyH_take (i := 8) (v := ?v58) rfl (by kernel_rfl) (by kernel_rfl) (by kernel_rfl) (fun _ _ _ h => h) (Or.inl ⟨rfl, fun w' hw' => ?h58⟩) hHeld ?r58
            case h58 =>
              (obtain ⟨_, d0⟩ := hw'; go_simp)
              try with_reducible rfl
            simp only [List.getElem_toArray, List.getElem_cons_succ, List.getElem_cons_zero, Act.put, List.setIfInBounds_toArray, List.set_cons_zero, List.set_cons_succ]
            refine wpAnyH_ready (rs := [9]) (by kernel_rfl) (by simp) ?_
            refine (AllReadyH.cons rfl (fun K hK => ?_) AllReadyH.nil)
            go_simp
            refine F30.out.mono ?_
            rintro e u6 h6
            obtain rfl := h6.1
            have P6 := Lib.hid h6
            have hS6 := LC6.out u6 h6
            clear h6 F30
            refine hK.out _ _ hS6 (fun hHeld => ?_)
            clear hK K
            try simp only [List.getElem_toArray, List.getElem_cons_succ, List.getElem_cons_zero, Act.put, List.setIfInBounds_toArray, List.set_cons_zero, List.set_cons_succ]
            refine wpAnyH_done (by kernel_rfl) ?_ _
            refine NoPanic.normal ?_
            have hHeld0 := hHeld
            clear hHeld
            have HH6 := Lib.hid hHeld0
            clear hHeld0 LC6 RO
            have HP6 := Lib.hid (HP1.out.both2 HBX.out P1.out P6.out B5.out)
            have GP6 : Hid (u6.cell? ⟨gp, 0, none⟩ = some (.int .i64 (lj : Nat))) := by
              obtain ⟨-, C', qs', -, h2, -⟩ := P6.out
              refine h2.cellAt ((Fr.of_below (F := fun _ => False) HB2.out).cellAt GPC.out (fun h => h)) (fun e => e (CS.out gp ?_))
              have := B3.out.size
              have := GP.out
              omega
            clear P6 P1 CS B5 GPC GP HP1 HP
            obtain ⟨G6, C6, qs6, hp6, -⟩ := HP6.out
            have H6 := Lib.hid hp6
            clear hp6 HP6
            have hbel := H6.out.hl.bel
            have HBEL := Lib.hid hbel
            clear hbel
            go_upto_region 21 with fail
            refine wp_region_noPanic ?_
            have hbx := (Below.refl u6.heap.size u6).drew
            have LC7 : Hid (∀ W, Below u6.heap.size u6 W → (W.cell? ⟨g, i1, none⟩ = some (.int .i64 (li : Nat)) ∧ W.cell? ⟨g, j1, none⟩ = some (.int .i64 (lj : Nat))) ∧ W.cell? ⟨gp, 0, none⟩ = some (.int .i64 (lj : Nat))) := fun W hb => ⟨LCP.out u6 W HH6.out hb, (Fr.of_below (F := fun _ => False) hb).cellAt GP6.out (fun h => h)⟩
            refine wp_region_held_drew (S := fun W => (W.cell? ⟨g, i1, none⟩ = some (.int .i64 (li : Nat)) ∧ W.cell? ⟨g, j1, none⟩ = some (.int .i64 (lj : Nat))) ∧ W.cell? ⟨gp, 0, none⟩ = some (.int .i64 (lj : Nat))) (by kernel_rfl) (LC7.out _ hbx) (fun hHeld => ?_)
            generalize u6.drew = X3 at hHeld hbx ⊢
            have HBX := Lib.hid hbx
            clear hbx
            have F18 : Hid (Calls Try.prog 18 #[.pointer (some ⟨b, 0, none⟩), .int .i64 (li : Nat)] X3 (RetV (.int .i64 5) X3)) := by
              have h := tagm_any (H6.out.below HBX.out).hl.hp (li : Nat) (by have := HIB.out; omega) (by have := HIB.out; omega)
              rw [OFP.out.2.2] at h
              exact h
            have F28 := Lib.hid (fun W (hb : Below u6.heap.size u6 W) => nums_none (H6.out.below hb).hl.hp (li : Nat) HIB.out.1 HIB.out.2 OFP.out.2.1)
            have F17 := Lib.hid (fun W (hb : Below u6.heap.size u6 W) => same_r (H6.out.below hb))
            refine wpAnyH_take (i := 0) (v := ?v59) rfl (by kernel_rfl) (by kernel_rfl) (by kernel_rfl) (fun _ _ _ h => h) (Or.inl ⟨rfl, fun w' hw' => ?h59⟩) hHeld ?r59
            case h59 =>
              go_simp
              try with_reducible rfl
            simp only [List.getElem_toArray, List.getElem_cons_succ, List.getElem_cons_zero, Act.put, List.setIfInBounds_toArray, List.set_cons_zero, List.set_cons_succ]
            refine wpAnyH_take (i := 1) (v := ?v60) rfl (by kernel_rfl) (by kernel_rfl) (by kernel_rfl) (fun _ _ _ h => h) (Or.inl ⟨rfl, fun w' hw' => ?h60⟩) hHeld ?r60
            case h60 =>
              go_simp
              try with_reducible rfl
            simp only [List.getElem_toArray, List.getElem_cons_succ, List.getElem_cons_zero, Act.put, List.setIfInBounds_toArray, List.set_cons_zero, List.set_cons_succ]
            refine wpAnyH_take (i := 2) (v := ?v61) rfl (by kernel_rfl) (by kernel_rfl) (by kernel_rfl) (fun _ _ _ h => h) (Or.inl ⟨rfl, fun w' hw' => ?h61⟩) hHeld ?r61
            case h61 =>
              go_simp
              try with_reducible rfl
            simp only [List.getElem_toArray, List.getElem_cons_succ, List.getElem_cons_zero, Act.put, List.setIfInBounds_toArray, List.set_cons_zero, List.set_cons_succ]
            refine wpAnyH_take (i := 3) (v := ?v62) rfl (by kernel_rfl) (by kernel_rfl) (by kernel_rfl) (fun _ _ _ h => h) (Or.inl ⟨rfl, fun w' hw' => ?h62⟩) hHeld ?r62
            case h62 =>
              go_simp
              try with_reducible rfl
            simp only [List.getElem_toArray, List.getElem_cons_succ, List.getElem_cons_zero, Act.put, List.setIfInBounds_toArray, List.set_cons_zero, List.set_cons_succ]
            refine wpAnyH_take (i := 4) (v := ?v63) rfl (by kernel_rfl) (by kernel_rfl) (by kernel_rfl) (fun _ _ _ h => h) (Or.inl ⟨rfl, fun w' hw' => ?h63⟩) hHeld ?r63
            case h63 =>
              (obtain ⟨⟨d0, _⟩, _⟩ := hw'; go_simp)
              try with_reducible rfl
            simp only [List.getElem_toArray, List.getElem_cons_succ, List.getElem_cons_zero, Act.put, List.setIfInBounds_toArray, List.set_cons_zero, List.set_cons_succ]
            refine wpAnyH_ready (rs := [5]) (by kernel_rfl) (by simp) ?_
            refine (AllReadyH.cons rfl (fun K hK => ?_) AllReadyH.nil)
            go_simp
            refine F18.out.mono ?_
            rintro e v1 ⟨rfl, hb1⟩
            have K1 := Lib.hid (HBX.out.trans (hb1.mono HBX.out.size))
            have hS1 := LC7.out v1 K1.out
            clear hb1 F18
            refine hK.out _ _ hS1 (fun hHeld => ?_)
            clear hK K
            try simp only [List.getElem_toArray, List.getElem_cons_succ, List.getElem_cons_zero, Act.put, List.setIfInBounds_toArray, List.set_cons_zero, List.set_cons_succ]
            refine wpAnyH_take (i := 6) (v := ?v64) rfl (by kernel_rfl) (by kernel_rfl) (by kernel_rfl) (fun _ _ _ h => h) (Or.inl ⟨rfl, fun w' hw' => ?h64⟩) hHeld ?r64
            case h64 =>
              go_simp
              try with_reducible rfl
            simp only [List.getElem_toArray, List.getElem_cons_succ, List.getElem_cons_zero, Act.put, List.setIfInBounds_toArray, List.set_cons_zero, List.set_cons_succ]
            refine wpAnyH_take (i := 7) (v := ?v65) rfl (by kernel_rfl) (by kernel_rfl) (by kernel_rfl) (fun _ _ _ h => h) (Or.inl ⟨rfl, fun w' hw' => ?h65⟩) hHeld ?r65
            case h65 =>
              go_simp
              try with_reducible rfl
            simp only [List.getElem_toArray, List.getElem_cons_succ, List.getElem_cons_zero, Act.put, List.setIfInBounds_toArray, List.set_cons_zero, List.set_cons_succ]
            refine wpAnyH_take (i := 8) (v := ?v66) rfl (by kernel_rfl) (by kernel_rfl) (by kernel_rfl) (fun _ _ _ h => h) (Or.inl ⟨rfl, fun w' hw' => ?h66⟩) hHeld ?r66
            case h66 =>
              go_simp
              try with_reducible rfl
            simp only [List.getElem_toArray, List.getElem_cons_succ, List.getElem_cons_zero, Act.put, List.setIfInBounds_toArray, List.set_cons_zero, List.set_cons_succ]
            refine wpAnyH_take (i := 9) (v := ?v67) rfl (by kernel_rfl) (by kernel_rfl) (by kernel_rfl) (fun _ _ _ h => h) (Or.inl ⟨rfl, fun w' hw' => ?h67⟩) hHeld ?r67
            case h67 =>
              go_simp
              try with_reducible rfl
            simp only [List.getElem_toArray, List.getElem_cons_succ, List.getElem_cons_zero, Act.put, List.setIfInBounds_toArray, List.set_cons_zero, List.set_cons_succ]
            refine wpAnyH_take (i := 10) (v := ?v68) rfl (by kernel_rfl) (by kernel_rfl) (by kernel_rfl) (fun _ _ _ h => h) (Or.inl ⟨rfl, fun w' hw' => ?h68⟩) hHeld ?r68
            case h68 =>
              go_simp
              try with_reducible rfl
            simp only [List.getElem_toArray, List.getElem_cons_succ, List.getElem_cons_zero, Act.put, List.setIfInBounds_toArray, List.set_cons_zero, List.set_cons_succ]
            refine wpAnyH_take (i := 11) (v := ?v69) rfl (by kernel_rfl) (by kernel_rfl) (by kernel_rfl) (fun _ _ _ h => h) (Or.inl ⟨rfl, fun w' hw' => ?h69⟩) hHeld ?r69
            case h69 =>
              go_simp
              try with_reducible rfl
            simp only [List.getElem_toArray, List.getElem_cons_succ, List.getElem_cons_zero, Act.put, List.setIfInBounds_toArray, List.set_cons_zero, List.set_cons_succ]
            refine wpAnyH_take (i := 12) (v := ?v70) rfl (by kernel_rfl) (by kernel_rfl) (by kernel_rfl) (fun _ _ _ h => h) (Or.inl ⟨rfl, fun w' hw' => ?h70⟩) hHeld ?r70
            case h70 =>
              go_simp
              try with_reducible rfl
            simp only [List.getElem_toArray, List.getElem_cons_succ, List.getElem_cons_zero, Act.put, List.setIfInBounds_toArray, List.set_cons_zero, List.set_cons_succ]
            refine wpAnyH_take (i := 13) (v := ?v71) rfl (by kernel_rfl) (by kernel_rfl) (by kernel_rfl) (fun _ _ _ h => h) (Or.inl ⟨rfl, fun w' hw' => ?h71⟩) hHeld ?r71
            case h71 =>
              go_simp
              try with_reducible rfl
            simp only [List.getElem_toArray, List.getElem_cons_succ, List.getElem_cons_zero, Act.put, List.setIfInBounds_toArray, List.set_cons_zero, List.set_cons_succ]
            refine wpAnyH_take (i := 14) (v := ?v72) rfl (by kernel_rfl) (by kernel_rfl) (by kernel_rfl) (fun _ _ _ h => h) (Or.inl ⟨rfl, fun w' hw' => ?h72⟩) hHeld ?r72
            case h72 =>
              go_simp
              try with_reducible rfl
            simp only [List.getElem_toArray, List.getElem_cons_succ, List.getElem_cons_zero, Act.put, List.setIfInBounds_toArray, List.set_cons_zero, List.set_cons_succ]
            refine wpAnyH_take (i := 15) (v := ?v73) rfl (by kernel_rfl) (by kernel_rfl) (by kernel_rfl) (fun _ _ _ h => h) (Or.inl ⟨rfl, fun w' hw' => ?h73⟩) hHeld ?r73
            case h73 =>
              (obtain ⟨_, d0⟩ := hw'; go_simp)
              try with_reducible rfl
            simp only [List.getElem_toArray, List.getElem_cons_succ, List.getElem_cons_zero, Act.put, List.setIfInBounds_toArray, List.set_cons_zero, List.set_cons_succ]
            refine wpAnyH_take (i := 16) (v := ?v74) rfl (by kernel_rfl) (by kernel_rfl) (by kernel_rfl) (fun _ _ _ h => h) (Or.inl ⟨rfl, fun w' hw' => ?h74⟩) hHeld ?r74
            case h74 =>
              go_simp
              try with_reducible rfl
            simp only [List.getElem_toArray, List.getElem_cons_succ, List.getElem_cons_zero, Act.put, List.setIfInBounds_toArray, List.set_cons_zero, List.set_cons_succ]
            refine wpAnyH_take (i := 17) (v := ?v75) rfl (by kernel_rfl) (by kernel_rfl) (by kernel_rfl) (fun _ _ _ h => h) (Or.inl ⟨rfl, fun w' hw' => ?h75⟩) hHeld ?r75
            case h75 =>
              go_simp
              try with_reducible rfl
            simp only [List.getElem_toArray, List.getElem_cons_succ, List.getElem_cons_zero, Act.put, List.setIfInBounds_toArray, List.set_cons_zero, List.set_cons_succ]
            refine wpAnyH_take (i := 18) (v := ?v76) rfl (by kernel_rfl) (by kernel_rfl) (by kernel_rfl) (fun _ _ _ h => h) (Or.inl ⟨rfl, fun w' hw' => ?h76⟩) hHeld ?r76
            case h76 =>
              go_simp
              try with_reducible rfl
            simp only [List.getElem_toArray, List.getElem_cons_succ, List.getElem_cons_zero, Act.put, List.setIfInBounds_toArray, List.set_cons_zero, List.set_cons_succ]
            refine wpAnyH_take (i := 19) (v := ?v77) rfl (by kernel_rfl) (by kernel_rfl) (by kernel_rfl) (fun _ _ _ h => h) (Or.inl ⟨rfl, fun w' hw' => ?h77⟩) hHeld ?r77
            case h77 =>
              (obtain ⟨⟨_, d0⟩, _⟩ := hw'; go_simp)
              try with_reducible rfl
            simp only [List.getElem_toArray, List.getElem_cons_succ, List.getElem_cons_zero, Act.put, List.setIfInBounds_toArray, List.set_cons_zero, List.set_cons_succ]
            refine wpAnyH_take (i := 20) (v := ?v78) rfl (by kernel_rfl) (by kernel_rfl) (by kernel_rfl) (fun _ _ _ h => h) (Or.inl ⟨rfl, fun w' hw' => ?h78⟩) hHeld ?r78
            case h78 =>
              go_simp
              try with_reducible rfl
            simp only [List.getElem_toArray, List.getElem_cons_succ, List.getElem_cons_zero, Act.put, List.setIfInBounds_toArray, List.set_cons_zero, List.set_cons_succ]
            refine wpAnyH_take (i := 21) (v := ?v79) rfl (by kernel_rfl) (by kernel_rfl) (by kernel_rfl) (fun _ _ _ h => h) (Or.inl ⟨rfl, fun w' hw' => ?h79⟩) hHeld ?r79
            case h79 =>
              go_simp
              try with_reducible rfl
            simp only [List.getElem_toArray, List.getElem_cons_succ, List.getElem_cons_zero, Act.put, List.setIfInBounds_toArray, List.set_cons_zero, List.set_cons_succ]
            refine wpAnyH_take (i := 22) (v := ?v80) rfl (by kernel_rfl) (by kernel_rfl) (by kernel_rfl) (fun _ _ _ h => h) (Or.inl ⟨rfl, fun w' hw' => ?h80⟩) hHeld ?r80
            case h80 =>
              go_simp
              try with_reducible rfl
            simp only [List.getElem_toArray, List.getElem_cons_succ, List.getElem_cons_zero, Act.put, List.setIfInBounds_toArray, List.set_cons_zero, List.set_cons_succ]
            refine wpAnyH_take (i := 23) (v := ?v81) rfl (by kernel_rfl) (by kernel_rfl) (by kernel_rfl) (fun _ _ _ h => h) (Or.inl ⟨rfl, fun w' hw' => ?h81⟩) hHeld ?r81
            case h81 =>
              go_simp
              try with_reducible rfl
            simp only [List.getElem_toArray, List.getElem_cons_succ, List.getElem_cons_zero, Act.put, List.setIfInBounds_toArray, List.set_cons_zero, List.set_cons_succ]
            refine wpAnyH_take (i := 24) (v := ?v82) rfl (by kernel_rfl) (by kernel_rfl) (by kernel_rfl) (fun _ _ _ h => h) (Or.inl ⟨rfl, fun w' hw' => ?h82⟩) hHeld ?r82
            case h82 =>
              go_simp
              try with_reducible rfl
            simp only [List.getElem_toArray, List.getElem_cons_succ, List.getElem_cons_zero, Act.put, List.setIfInBounds_toArray, List.set_cons_zero, List.set_cons_succ]
            refine wpAnyH_take (i := 25) (v := ?v83) rfl (by kernel_rfl) (by kernel_rfl) (by kernel_rfl) (fun _ _ _ h => h) (Or.inl ⟨rfl, fun w' hw' => ?h83⟩) hHeld ?r83
            case h83 =>
              go_simp
              try with_reducible rfl
            simp only [List.getElem_toArray, List.getElem_cons_succ, List.getElem_cons_zero, Act.put, List.setIfInBounds_toArray, List.set_cons_zero, List.set_cons_succ]
            refine wpAnyH_take (i := 26) (v := ?v84) rfl (by kernel_rfl) (by kernel_rfl) (by kernel_rfl) (fun _ _ _ h => h) (Or.inl ⟨rfl, fun w' hw' => ?h84⟩) hHeld ?r84
            case h84 =>
              go_simp
              try with_reducible rfl
            simp only [List.getElem_toArray, List.getElem_cons_succ, List.getElem_cons_zero, Act.put, List.setIfInBounds_toArray, List.set_cons_zero, List.set_cons_succ]
            refine wpAnyH_take (i := 27) (v := ?v85) rfl (by kernel_rfl) (by kernel_rfl) (by kernel_rfl) (fun _ _ _ h => h) (Or.inl ⟨rfl, fun w' hw' => ?h85⟩) hHeld ?r85
            case h85 =>
              (obtain ⟨⟨d0, _⟩, _⟩ := hw'; go_simp)
              try with_reducible rfl
            simp only [List.getElem_toArray, List.getElem_cons_succ, List.getElem_cons_zero, Act.put, List.setIfInBounds_toArray, List.set_cons_zero, List.set_cons_succ]
            refine wpAnyH_ready (rs := [28]) (by kernel_rfl) (by simp) ?_
            refine (AllReadyH.cons rfl (fun K hK => ?_) AllReadyH.nil)
            go_simp
            refine (F28.out v1 K1.out).mono ?_
            rintro e v2 ⟨ao8, c8, rfl, hb2⟩
            have K2 := Lib.hid (K1.out.trans (hb2.mono K1.out.size))
            have hS2 := LC7.out v2 K2.out
            clear hb2
            refine hK.out _ _ hS2 (fun hHeld => ?_)
            clear hK K
            try simp only [List.getElem_toArray, List.getElem_cons_succ, List.getElem_cons_zero, Act.put, List.setIfInBounds_toArray, List.set_cons_zero, List.set_cons_succ]
            refine wpAnyH_take (i := 29) (v := ?v86) rfl (by kernel_rfl) (by kernel_rfl) (by kernel_rfl) (fun _ _ _ h => h) (Or.inl ⟨rfl, fun w' hw' => ?h86⟩) hHeld ?r86
            case h86 =>
              go_simp
              try with_reducible rfl
            simp only [List.getElem_toArray, List.getElem_cons_succ, List.getElem_cons_zero, Act.put, List.setIfInBounds_toArray, List.set_cons_zero, List.set_cons_succ]
            refine wpAnyH_take (i := 30) (v := ?v87) rfl (by kernel_rfl) (by kernel_rfl) (by kernel_rfl) (fun _ _ _ h => h) (Or.inl ⟨rfl, fun w' hw' => ?h87⟩) hHeld ?r87
            case h87 =>
              go_simp
              try with_reducible rfl
            simp only [List.getElem_toArray, List.getElem_cons_succ, List.getElem_cons_zero, Act.put, List.setIfInBounds_toArray, List.set_cons_zero, List.set_cons_succ]
            refine wpAnyH_take (i := 31) (v := ?v88) rfl (by kernel_rfl) (by kernel_rfl) (by kernel_rfl) (fun _ _ _ h => h) (Or.inl ⟨rfl, fun w' hw' => ?h88⟩) hHeld ?r88
            case h88 =>
              go_simp
              try with_reducible rfl
            simp only [List.getElem_toArray, List.getElem_cons_succ, List.getElem_cons_zero, Act.put, List.setIfInBounds_toArray, List.set_cons_zero, List.set_cons_succ]
            refine wpAnyH_take (i := 32) (v := ?v89) rfl (by kernel_rfl) (by kernel_rfl) (by kernel_rfl) (fun _ _ _ h => h) (Or.inl ⟨rfl, fun w' hw' => ?h89⟩) hHeld ?r89
            case h89 =>
              go_simp
              try with_reducible rfl
            simp only [List.getElem_toArray, List.getElem_cons_succ, List.getElem_cons_zero, Act.put, List.setIfInBounds_toArray, List.set_cons_zero, List.set_cons_succ]
            refine wpAnyH_take (i := 33) (v := ?v90) rfl (by kernel_rfl) (by kernel_rfl) (by kernel_rfl) (fun _ _ _ h => h) (Or.inl ⟨rfl, fun w' hw' => ?h90⟩) hHeld ?r90
            case h90 =>
              go_simp
              try with_reducible rfl
            simp only [List.getElem_toArray, List.getElem_cons_succ, List.getElem_cons_zero, Act.put, List.setIfInBounds_toArray, List.set_cons_zero, List.set_cons_succ]
            refine wpAnyH_take (i := 34) (v := ?v91) rfl (by kernel_rfl) (by kernel_rfl) (by kernel_rfl) (fun _ _ _ h => h) (Or.inl ⟨rfl, fun w' hw' => ?h91⟩) hHeld ?r91
            case h91 =>
              go_simp
              try with_reducible rfl
            simp only [List.getElem_toArray, List.getElem_cons_succ, List.getElem_cons_zero, Act.put, List.setIfInBounds_toArray, List.set_cons_zero, List.set_cons_succ]
            refine wpAnyH_ready (rs := [35]) (by kernel_rfl) (by simp) ?_
            refine (AllReadyH.cons rfl (fun K hK => ?_) AllReadyH.nil)
            go_simp
            refine (F17.out v2 K2.out).mono ?_
            rintro e v3 ⟨rfl, hb3⟩
            have K3 := Lib.hid (K2.out.trans (hb3.mono K2.out.size))
            have hS3 := LC7.out v3 K3.out
            clear hb3
            refine hK.out _ _ hS3 (fun hHeld => ?_)
            clear hK K
            try simp only [List.getElem_toArray, List.getElem_cons_succ, List.getElem_cons_zero, Act.put, List.setIfInBounds_toArray, List.set_cons_zero, List.set_cons_succ]
            refine wpAnyH_take (i := 36) (v := ?v92) rfl (by kernel_rfl) (by kernel_rfl) (by kernel_rfl) (fun _ _ _ h => h) (Or.inl ⟨rfl, fun w' hw' => ?h92⟩) hHeld ?r92
            case h92 =>
              go_simp
              try with_reducible rfl
            simp only [List.getElem_toArray, List.getElem_cons_succ, List.getElem_cons_zero, Act.put, List.setIfInBounds_toArray, List.set_cons_zero, List.set_cons_succ]
            refine wpAnyH_take (i := 37) (v := ?v93) rfl (by kernel_rfl) (by kernel_rfl) (by kernel_rfl) (fun _ _ _ h => h) (Or.inl ⟨rfl, fun w' hw' => ?h93⟩) hHeld ?r93
            case h93 =>
              go_simp
              try with_reducible rfl
            simp only [List.getElem_toArray, List.getElem_cons_succ, List.getElem_cons_zero, Act.put, List.setIfInBounds_toArray, List.set_cons_zero, List.set_cons_succ]
            refine wpAnyH_done (by kernel_rfl) ?_ _
            refine NoPanic.normal ?_
            clear hHeld
            go_wp2_with fail
            go_ret
            exact ⟨rfl, HBEL.out.trans (K3.out.mono HBEL.out.size)⟩
      · have q1 : decide ((i : Int) < (len : Int)) = false := decide_eq_false (by omega)
        clear hgo
        have F25 := Lib.hid (objects_o HP.out.hl.hp)
        have hht := HP.out.hl.hp.2.2.2
        have hol := total_len os
        obtain ⟨L, hL⟩ : ∃ L, L = os.length := ⟨_, rfl⟩
        have HLO := Lib.hid hL
        have HLL : Hid (L = (adrs os).length) := by show _ = _; rw [adrs_len, hL]
        have hL2 : L ≤ 200 := by omega
        clear hht hol hL
        go_wp2_with fail
        refine F25.out.mono ?_
        rintro e w1 hr
        obtain ⟨ao1, c1, rfl, ho1, hb1⟩ := hr.form
        have HP1 := Lib.hid (HP.out.below hb1)
        have HO1 := Lib.hid ho1
        have HB1 := Lib.hid hb1
        rw [← HLL.out] at HO1 ⊢
        clear hr ho1 hb1 F25
        by_cases hl2 : L < 2
        · have q3 : decide ((L : Int) < 2) = true := decide_eq_true (by omega)
          go_wp2_with fail
          go_ret
          exact ⟨rfl, HP1.out.hl.bel⟩
        · have q3 : decide ((L : Int) < 2) = false := decide_eq_false (by omega)
          have HOC := Lib.hid (own_at HO1.out (by omega))
          obtain ⟨g, c, hsl, hgB, hg1, -, hcl⟩ := HOC.out
          injection hsl with hs1 hs2 hs3
          subst hs1
          have HGB : Hid (wr.heap.size ≤ g ∧ g < w1.heap.size) := ⟨hgB, hg1⟩
          have HCL := Lib.hid hcl
          clear HOC hgB hg1 hcl hs2 hs3 HO1
          obtain ⟨i1, hi1, -, F⟩ := within_at at1 L HAT.out (by omega) (by omega) w1
          have FA := Lib.hid F
          clear F
          obtain ⟨j1, hj1, -, F⟩ := within_at to1 L HTO.out (by omega) (by omega) w1
          have FB := Lib.hid F
          clear F
          go_wp2_with fail
          refine FA.out.mono ?_
          rintro e w3 ⟨rfl, rfl⟩
          go_wp2_with fail
          refine FB.out.mono ?_
          rintro e w3 ⟨rfl, rfl⟩
          clear FA FB
          obtain ⟨U, hU⟩ : ∃ U, U = total os := ⟨_, rfl⟩
          have F23 : Hid (∀ W, Below w1.heap.size w1 W → Calls Try.prog 23 #[.pointer (some ⟨b, 0, none⟩)] W fun e w' => e = .returned (.int .i64 (U : Nat)) ∧ W = w') := fun W hb => by
            have := used_any (HP1.out.below hb).hl.hp.1
            rw [wds_length, ← hU] at this
            exact this
          have HU := Lib.hid hU
          clear hU
          go_wp2_with fail
          refine (F23.out w1 (Below.refl _ _)).mono ?_
          rintro e w3 ⟨rfl, rfl⟩
          have hoi : i1 < os.length := by rw [← HLO.out]; exact hi1
          have hoj : j1 < os.length := by rw [← HLO.out]; exact hj1
          have HLI := Lib.hid (adrs_at HCL.out hoi)
          have HLJ := Lib.hid (adrs_at HCL.out hoj)
          have HIB := Lib.hid (adr_bd2 hoi HP1.out.hl.hp)
          have HJB := Lib.hid (adr_bd2 hoj HP1.out.hl.hp)
          have HGF : Hid (¬ fp b G C g) := fun e => by have := (HP.out.low g e).2; have := HGB.out.1; omega
          have HOI := Lib.hid hoi
          have HOJ := Lib.hid hoj
          clear hoi hoj
          go_upto_region 15 with fail
          refine wp_region_noPanic ?_
          by_cases hij : i1 = j1
          · subst hij
            have LCB : Hid (∀ W, Below w1.heap.size w1 W → W.cell? ⟨g, i1, none⟩ = some (.int .i64 (adr os i1 : Nat)) ∧ W.cell? ⟨g, i1, none⟩ = some (.int .i64 (adr os i1 : Nat))) := fun W hb => ⟨(Fr.of_below (F := fun _ => False) hb).cellAt HLI.out (fun h => h), (Fr.of_below (F := fun _ => False) hb).cellAt HLI.out (fun h => h)⟩
            have hbx := (Below.refl w1.heap.size w1).drew
            refine wp_region_held_drew (S := fun W => W.cell? ⟨g, i1, none⟩ = some (.int .i64 (adr os i1 : Nat)) ∧ W.cell? ⟨g, i1, none⟩ = some (.int .i64 (adr os i1 : Nat))) (by kernel_rfl) (LCB.out _ hbx) (fun hHeld => ?_)
            generalize w1.drew = X at hHeld hbx ⊢
            have HBX := Lib.hid hbx
            clear hbx
            have F29 := Lib.hid (over_no (HP1.out.below HBX.out).hl.hp (adr os i1 : Nat) (adr os i1 : Nat) HIB.out.1 HIB.out.2 HIB.out.1 HIB.out.2 (.inl rfl))
            have F25 := Lib.hid (fun W (hb : Below w1.heap.size w1 W) => objects_o (HP1.out.below hb).hl.hp)
            generalize adr os i1 = li at *
            refine wpAnyH_take (i := 0) (v := ?v94) rfl (by kernel_rfl) (by kernel_rfl) (by kernel_rfl) (fun _ _ _ h => h) (Or.inl ⟨rfl, fun w' hw' => ?h94⟩) hHeld ?r94
            case h94 =>
              go_simp
              try with_reducible rfl
            simp only [List.getElem_toArray, List.getElem_cons_succ, List.getElem_cons_zero, Act.put, List.setIfInBounds_toArray, List.set_cons_zero, List.set_cons_succ]
            refine wpAnyH_take (i := 1) (v := ?v95) rfl (by kernel_rfl) (by kernel_rfl) (by kernel_rfl) (fun _ _ _ h => h) (Or.inl ⟨rfl, fun w' hw' => ?h95⟩) hHeld ?r95
            case h95 =>
              go_simp
              try with_reducible rfl
            simp only [List.getElem_toArray, List.getElem_cons_succ, List.getElem_cons_zero, Act.put, List.setIfInBounds_toArray, List.set_cons_zero, List.set_cons_succ]
            refine wpAnyH_take (i := 2) (v := ?v96) rfl (by kernel_rfl) (by kernel_rfl) (by kernel_rfl) (fun _ _ _ h => h) (Or.inl ⟨rfl, fun w' hw' => ?h96⟩) hHeld ?r96
            case h96 =>
              go_simp
              try with_reducible rfl
            simp only [List.getElem_toArray, List.getElem_cons_succ, List.getElem_cons_zero, Act.put, List.setIfInBounds_toArray, List.set_cons_zero, List.set_cons_succ]
            refine wpAnyH_take (i := 3) (v := ?v97) rfl (by kernel_rfl) (by kernel_rfl) (by kernel_rfl) (fun _ _ _ h => h) (Or.inl ⟨rfl, fun w' hw' => ?h97⟩) hHeld ?r97
            case h97 =>
              go_simp
              try with_reducible rfl
            simp only [List.getElem_toArray, List.getElem_cons_succ, List.getElem_cons_zero, Act.put, List.setIfInBounds_toArray, List.set_cons_zero, List.set_cons_succ]
            refine wpAnyH_take (i := 4) (v := ?v98) rfl (by kernel_rfl) (by kernel_rfl) (by kernel_rfl) (fun _ _ _ h => h) (Or.inl ⟨rfl, fun w' hw' => ?h98⟩) hHeld ?r98
            case h98 =>
              (obtain ⟨d0, _⟩ := hw'; go_simp)
              try with_reducible rfl
            simp only [List.getElem_toArray, List.getElem_cons_succ, List.getElem_cons_zero, Act.put, List.setIfInBounds_toArray, List.set_cons_zero, List.set_cons_succ]
            refine wpAnyH_take (i := 5) (v := ?v99) rfl (by kernel_rfl) (by kernel_rfl) (by kernel_rfl) (fun _ _ _ h => h) (Or.inl ⟨rfl, fun w' hw' => ?h99⟩) hHeld ?r99
            case h99 =>
              go_simp
              try with_reducible rfl
            simp only [List.getElem_toArray, List.getElem_cons_succ, List.getElem_cons_zero, Act.put, List.setIfInBounds_toArray, List.set_cons_zero, List.set_cons_succ]
            refine wpAnyH_take (i := 6) (v := ?v100) rfl (by kernel_rfl) (by kernel_rfl) (by kernel_rfl) (fun _ _ _ h => h) (Or.inl ⟨rfl, fun w' hw' => ?h100⟩) hHeld ?r100
            case h100 =>
              go_simp
              try with_reducible rfl
            simp only [List.getElem_toArray, List.getElem_cons_succ, List.getElem_cons_zero, Act.put, List.setIfInBounds_toArray, List.set_cons_zero, List.set_cons_succ]
            refine wpAnyH_take (i := 7) (v := ?v101) rfl (by kernel_rfl) (by kernel_rfl) (by kernel_rfl) (fun _ _ _ h => h) (Or.inl ⟨rfl, fun w' hw' => ?h101⟩) hHeld ?r101
            case h101 =>
              go_simp
              try with_reducible rfl
            simp only [List.getElem_toArray, List.getElem_cons_succ, List.getElem_cons_zero, Act.put, List.setIfInBounds_toArray, List.set_cons_zero, List.set_cons_succ]
            refine wpAnyH_take (i := 8) (v := ?v102) rfl (by kernel_rfl) (by kernel_rfl) (by kernel_rfl) (fun _ _ _ h => h) (Or.inl ⟨rfl, fun w' hw' => ?h102⟩) hHeld ?r102
            case h102 =>
              (obtain ⟨_, d0⟩ := hw'; go_simp)
              try with_reducible rfl
            simp only [List.getElem_toArray, List.getElem_cons_succ, List.getElem_cons_zero, Act.put, List.setIfInBounds_toArray, List.set_cons_zero, List.set_cons_succ]
            refine wpAnyH_take (i := 10) (v := ?v103) rfl (by kernel_rfl) (by kernel_rfl) (by kernel_rfl) (fun _ _ _ h => h) (Or.inl ⟨rfl, fun w' hw' => ?h103⟩) hHeld ?r103
            case h103 =>
              go_simp
              try with_reducible rfl
            simp only [List.getElem_toArray, List.getElem_cons_succ, List.getElem_cons_zero, Act.put, List.setIfInBounds_toArray, List.set_cons_zero, List.set_cons_succ]
            refine wpAnyH_take (i := 11) (v := ?v104) rfl (by kernel_rfl) (by kernel_rfl) (by kernel_rfl) (fun _ _ _ h => h) (Or.inl ⟨rfl, fun w' hw' => ?h104⟩) hHeld ?r104
            case h104 =>
              go_simp
              try with_reducible rfl
            simp only [List.getElem_toArray, List.getElem_cons_succ, List.getElem_cons_zero, Act.put, List.setIfInBounds_toArray, List.set_cons_zero, List.set_cons_succ]
            refine wpAnyH_take (i := 12) (v := Value.bool false) rfl (by kernel_rfl) (by kernel_rfl) (by kernel_rfl) (fun _ _ _ h => h) (Or.inl ⟨rfl, fun w' hw' => ?_⟩) hHeld ?_
            · go_simp
            simp only [List.getElem_toArray, List.getElem_cons_succ, List.getElem_cons_zero, Act.put, List.setIfInBounds_toArray, List.set_cons_zero, List.set_cons_succ]
            refine wpAnyH_ready (rs := [9]) (by kernel_rfl) (by simp) ?_
            refine (AllReadyH.cons rfl (fun K hK => ?_) AllReadyH.nil)
            go_simp
            refine F29.out.mono ?_
            rintro e u1 ⟨rfl, hb1⟩
            have B1 := Lib.hid (HBX.out.trans (hb1.mono HBX.out.size))
            have hS1 := LCB.out u1 B1.out
            clear hb1 F29
            refine hK.out _ _ hS1 (fun hHeld => ?_)
            clear hK K
            try simp only [List.getElem_toArray, List.getElem_cons_succ, List.getElem_cons_zero, Act.put, List.setIfInBounds_toArray, List.set_cons_zero, List.set_cons_succ]
            refine wpAnyH_take (i := 13) (v := ?v106) rfl (by kernel_rfl) (by kernel_rfl) (by kernel_rfl) (fun _ _ _ h => h) (Or.inl ⟨rfl, fun w' hw' => ?h106⟩) hHeld ?r106
            case h106 =>
              go_simp
              try with_reducible rfl
            simp only [List.getElem_toArray, List.getElem_cons_succ, List.getElem_cons_zero, Act.put, List.setIfInBounds_toArray, List.set_cons_zero, List.set_cons_succ]
            refine wpAnyH_take (i := 14) (v := ?v107) rfl (by kernel_rfl) (by kernel_rfl) (by kernel_rfl) (fun _ _ _ h => h) (Or.inl ⟨rfl, fun w' hw' => ?h107⟩) hHeld ?r107
            case h107 =>
              go_simp
              try with_reducible rfl
            simp only [List.getElem_toArray, List.getElem_cons_succ, List.getElem_cons_zero, Act.put, List.setIfInBounds_toArray, List.set_cons_zero, List.set_cons_succ]
            refine wpAnyH_take (i := 15) (v := ?v108) rfl (by kernel_rfl) (by kernel_rfl) (by kernel_rfl) (fun _ _ _ h => h) (Or.inl ⟨rfl, fun w' hw' => ?h108⟩) hHeld ?r108
            case h108 =>
              go_simp
              try with_reducible rfl
            simp only [List.getElem_toArray, List.getElem_cons_succ, List.getElem_cons_zero, Act.put, List.setIfInBounds_toArray, List.set_cons_zero, List.set_cons_succ]
            refine wpAnyH_take (i := 17) (v := ?v109) rfl (by kernel_rfl) (by kernel_rfl) (by kernel_rfl) (fun _ _ _ h => h) (Or.inl ⟨rfl, fun w' hw' => ?h109⟩) hHeld ?r109
            case h109 =>
              go_simp
              try with_reducible rfl
            simp only [List.getElem_toArray, List.getElem_cons_succ, List.getElem_cons_zero, Act.put, List.setIfInBounds_toArray, List.set_cons_zero, List.set_cons_succ]
            refine wpAnyH_ready (rs := [16]) (by kernel_rfl) (by simp) ?_
            refine (AllReadyH.cons rfl (fun K hK => ?_) AllReadyH.nil)
            go_simp
            refine (F23.out u1 B1.out).mono ?_
            rintro e u2 ⟨rfl, rfl⟩
            refine hK.out _ _ hHeld (fun hHeld => ?_)
            clear hK K
            try simp only [List.getElem_toArray, List.getElem_cons_succ, List.getElem_cons_zero, Act.put, List.setIfInBounds_toArray, List.set_cons_zero, List.set_cons_succ]
            refine wpAnyH_take (i := 18) (v := ?v110) rfl (by kernel_rfl) (by kernel_rfl) (by kernel_rfl) (fun _ _ _ h => h) (Or.inl ⟨rfl, fun w' hw' => ?h110⟩) hHeld ?r110
            case h110 =>
              go_simp
              try with_reducible rfl
            simp only [List.getElem_toArray, List.getElem_cons_succ, List.getElem_cons_zero, Act.put, List.setIfInBounds_toArray, List.set_cons_zero, List.set_cons_succ]
            refine wpAnyH_take (i := 19) (v := ?v111) rfl (by kernel_rfl) (by kernel_rfl) (by kernel_rfl) (fun _ _ _ h => h) (Or.inl ⟨rfl, fun w' hw' => ?h111⟩) hHeld ?r111
            case h111 =>
              go_simp
              try with_reducible rfl
            simp only [List.getElem_toArray, List.getElem_cons_succ, List.getElem_cons_zero, Act.put, List.setIfInBounds_toArray, List.set_cons_zero, List.set_cons_succ]
            refine wpAnyH_take (i := 20) (v := ?v112) rfl (by kernel_rfl) (by kernel_rfl) (by kernel_rfl) (fun _ _ _ h => h) (Or.inl ⟨rfl, fun w' hw' => ?h112⟩) hHeld ?r112
            case h112 =>
              go_simp
              try with_reducible rfl
            simp only [List.getElem_toArray, List.getElem_cons_succ, List.getElem_cons_zero, Act.put, List.setIfInBounds_toArray, List.set_cons_zero, List.set_cons_succ]
            refine wpAnyH_take (i := 21) (v := ?v113) rfl (by kernel_rfl) (by kernel_rfl) (by kernel_rfl) (fun _ _ _ h => h) (Or.inl ⟨rfl, fun w' hw' => ?h113⟩) hHeld ?r113
            case h113 =>
              go_simp
              try with_reducible rfl
            simp only [List.getElem_toArray, List.getElem_cons_succ, List.getElem_cons_zero, Act.put, List.setIfInBounds_toArray, List.set_cons_zero, List.set_cons_succ]
            refine wpAnyH_take (i := 24) (v := ?v114) rfl (by kernel_rfl) (by kernel_rfl) (by kernel_rfl) (fun _ _ _ h => h) (Or.inl ⟨rfl, fun w' hw' => ?h114⟩) hHeld ?r114
            case h114 =>
              go_simp
              try with_reducible rfl
            simp only [List.getElem_toArray, List.getElem_cons_succ, List.getElem_cons_zero, Act.put, List.setIfInBounds_toArray, List.set_cons_zero, List.set_cons_succ]
            refine wpAnyH_take (i := 25) (v := ?v115) rfl (by kernel_rfl) (by kernel_rfl) (by kernel_rfl) (fun _ _ _ h => h) (Or.inl ⟨rfl, fun w' hw' => ?h115⟩) hHeld ?r115
            case h115 =>
              go_simp
              try with_reducible rfl
            simp only [List.getElem_toArray, List.getElem_cons_succ, List.getElem_cons_zero, Act.put, List.setIfInBounds_toArray, List.set_cons_zero, List.set_cons_succ]
            refine wpAnyH_ready (rs := [22]) (by kernel_rfl) (by simp) ?_
            refine (AllReadyH.cons rfl (fun K hK => ?_) AllReadyH.nil)
            go_simp
            refine (F25.out u1 B1.out).mono ?_
            rintro e u3 hr
            obtain ⟨ao3, c3, rfl, -, hb3⟩ := hr.form
            have B3 := Lib.hid (B1.out.trans (hb3.mono B1.out.size))
            have hS3 := LCB.out u3 B3.out
            rw [← HLL.out]
            clear hr hb3
            refine hK.out _ _ hS3 (fun hHeld => ?_)
            clear hK K
            try simp only [List.getElem_toArray, List.getElem_cons_succ, List.getElem_cons_zero, Act.put, List.setIfInBounds_toArray, List.set_cons_zero, List.set_cons_succ]
            refine wpAnyH_take (i := 23) (v := ?v116) rfl (by kernel_rfl) (by kernel_rfl) (by kernel_rfl) (fun _ _ _ h => h) (Or.inl ⟨rfl, fun w' hw' => ?h116⟩) hHeld ?r116
            case h116 =>
              go_simp
              try with_reducible rfl
            simp only [List.getElem_toArray, List.getElem_cons_succ, List.getElem_cons_zero, Act.put, List.setIfInBounds_toArray, List.set_cons_zero, List.set_cons_succ]
            refine wpAnyH_take (i := 26) (v := ?v117) rfl (by kernel_rfl) (by kernel_rfl) (by kernel_rfl) (fun _ _ _ h => h) (Or.inl ⟨rfl, fun w' hw' => ?h117⟩) hHeld ?r117
            case h117 =>
              go_simp
              try with_reducible rfl
            simp only [List.getElem_toArray, List.getElem_cons_succ, List.getElem_cons_zero, Act.put, List.setIfInBounds_toArray, List.set_cons_zero, List.set_cons_succ]
            refine wpAnyH_take (i := 27) (v := ?v118) rfl (by kernel_rfl) (by kernel_rfl) (by kernel_rfl) (fun _ _ _ h => h) (Or.inl ⟨rfl, fun w' hw' => ?h118⟩) hHeld ?r118
            case h118 =>
              go_simp
              try with_reducible rfl
            simp only [List.getElem_toArray, List.getElem_cons_succ, List.getElem_cons_zero, Act.put, List.setIfInBounds_toArray, List.set_cons_zero, List.set_cons_succ]
            refine wpAnyH_done (by kernel_rfl) ?_ _
            refine NoPanic.normal ?_
            clear hHeld
            go_wp2_with fail
            go_ret
            exact ⟨rfl, HP1.out.hl.bel.trans (B3.out.mono HP1.out.hl.bel.size)⟩
          · have Q3 : Hid ((i1 : Int) ≠ (j1 : Int)) := fun e => hij (by omega)
            have NEA : Hid (((adr os i1 : Nat) : Int) ≠ ((adr os j1 : Nat) : Int)) := fun e => hij (adr_inj HOI.out HOJ.out (by omega))
            have OF := Lib.hid (over_facts HP1.out.hl.hp.2.1 HOI.out (adr os j1 : Nat))
            have hbx := (Below.refl w1.heap.size w1).drew
            have hLX : w1.drew.cell? ⟨g, i1, none⟩ = some (.int .i64 (adr os i1 : Nat)) ∧ w1.drew.cell? ⟨g, j1, none⟩ = some (.int .i64 (adr os j1 : Nat)) := ⟨(Fr.of_below (F := fun _ => False) hbx).cellAt HLI.out (fun h => h), (Fr.of_below (F := fun _ => False) hbx).cellAt HLJ.out (fun h => h)⟩
            refine wp_region_held_drew (S := fun W => W.cell? ⟨g, i1, none⟩ = some (.int .i64 (adr os i1 : Nat)) ∧ W.cell? ⟨g, j1, none⟩ = some (.int .i64 (adr os j1 : Nat))) (by kernel_rfl) hLX (fun hHeld => ?_)
            generalize w1.drew = X at hHeld hbx ⊢
            have HBX := Lib.hid hbx
            clear hbx hLX
            have F29 := Lib.hid (over_yes (HP1.out.below HBX.out).hl.hp (adr os i1 : Nat) (adr os j1 : Nat) HIB.out.1 HIB.out.2 HJB.out.1 HJB.out.2 i1 (loc_adr os i1 HOI.out) NEA.out (by rw [ob_loc (loc_adr os j1 HOJ.out)]; rfl))
            have RO : Hid (∀ V, Rh V x C qs os 200 → Calls Try.prog 30 #[.pointer (some ⟨x, 0, none⟩), .int .i64 (adr os i1 : Nat), .int .i64 (adr os j1 : Nat)] V (RetR (.bool true) x C (upd os i1 (fun o => overO o (adr os j1 : Nat))) 200 V)) := fun V hV =>
              rover_yes hV (adr os i1 : Nat) (adr os j1 : Nat) i1 (loc_adr os i1 HOI.out) NEA.out (by rw [ob_loc (loc_adr os j1 HOJ.out)]; rfl)
            obtain ⟨os', hos⟩ : ∃ os', os' = upd os i1 (fun o => overO o (adr os j1 : Nat)) := ⟨_, rfl⟩
            rw [← hos] at F29 RO OF
            clear hos
            have OFT : Hid (total os' = U) := by show _ = _; rw [OF.out.1, HU.out]
            have OFL : Hid (os'.length = L) := by show _ = _; rw [OF.out.2.1, HLO.out]
            have OFP := Lib.hid OF.out.2.2
            clear OF NEA
            have LCO : Hid (∀ W, RetHp (.bool true) b G os' 200 X (.returned (.bool true)) W → W.cell? ⟨g, i1, none⟩ = some (.int .i64 (adr os i1 : Nat)) ∧ W.cell? ⟨g, j1, none⟩ = some (.int .i64 (adr os j1 : Nat))) := fun W h => by
              obtain ⟨-, G', -, h2, -⟩ := h
              have hn : ¬ own b G g := fun e => HGF.out (.inl e)
              exact ⟨h2.cellAt ((Fr.of_below (F := fun _ => False) HBX.out).cellAt HLI.out (fun h => h)) hn, h2.cellAt ((Fr.of_below (F := fun _ => False) HBX.out).cellAt HLJ.out (fun h => h)) hn⟩
            have LCP : Hid (∀ V W, (V.cell? ⟨g, i1, none⟩ = some (.int .i64 (adr os i1 : Nat)) ∧ V.cell? ⟨g, j1, none⟩ = some (.int .i64 (adr os j1 : Nat))) → Below V.heap.size V W → W.cell? ⟨g, i1, none⟩ = some (.int .i64 (adr os i1 : Nat)) ∧ W.cell? ⟨g, j1, none⟩ = some (.int .i64 (adr os j1 : Nat))) :=
              fun V W h hb => ⟨(Fr.of_below (F := fun _ => False) hb).cellAt h.1 (fun h => h), (Fr.of_below (F := fun _ => False) hb).cellAt h.2 (fun h => h)⟩
            generalize adr os i1 = li at *
            generalize adr os j1 = lj at *
            clear F23 HLI HLJ
            refine wpAnyH_take (i := 0) (v := ?v119) rfl (by kernel_rfl) (by kernel_rfl) (by kernel_rfl) (fun _ _ _ h => h) (Or.inl ⟨rfl, fun w' hw' => ?h119⟩) hHeld ?r119
            case h119 =>
              go_simp
              try with_reducible rfl
            simp only [List.getElem_toArray, List.getElem_cons_succ, List.getElem_cons_zero, Act.put, List.setIfInBounds_toArray, List.set_cons_zero, List.set_cons_succ]
            refine wpAnyH_take (i := 1) (v := ?v120) rfl (by kernel_rfl) (by kernel_rfl) (by kernel_rfl) (fun _ _ _ h => h) (Or.inl ⟨rfl, fun w' hw' => ?h120⟩) hHeld ?r120
            case h120 =>
              go_simp
              try with_reducible rfl
            simp only [List.getElem_toArray, List.getElem_cons_succ, List.getElem_cons_zero, Act.put, List.setIfInBounds_toArray, List.set_cons_zero, List.set_cons_succ]
            refine wpAnyH_take (i := 2) (v := ?v121) rfl (by kernel_rfl) (by kernel_rfl) (by kernel_rfl) (fun _ _ _ h => h) (Or.inl ⟨rfl, fun w' hw' => ?h121⟩) hHeld ?r121
            case h121 =>
              go_simp
              try with_reducible rfl
            simp only [List.getElem_toArray, List.getElem_cons_succ, List.getElem_cons_zero, Act.put, List.setIfInBounds_toArray, List.set_cons_zero, List.set_cons_succ]
            refine wpAnyH_take (i := 3) (v := ?v122) rfl (by kernel_rfl) (by kernel_rfl) (by kernel_rfl) (fun _ _ _ h => h) (Or.inl ⟨rfl, fun w' hw' => ?h122⟩) hHeld ?r122
            case h122 =>
              go_simp
              try with_reducible rfl
            simp only [List.getElem_toArray, List.getElem_cons_succ, List.getElem_cons_zero, Act.put, List.setIfInBounds_toArray, List.set_cons_zero, List.set_cons_succ]
            refine wpAnyH_take (i := 4) (v := ?v123) rfl (by kernel_rfl) (by kernel_rfl) (by kernel_rfl) (fun _ _ _ h => h) (Or.inl ⟨rfl, fun w' hw' => ?h123⟩) hHeld ?r123
            case h123 =>
              (obtain ⟨d0, _⟩ := hw'; go_simp)
              try with_reducible rfl
            simp only [List.getElem_toArray, List.getElem_cons_succ, List.getElem_cons_zero, Act.put, List.setIfInBounds_toArray, List.set_cons_zero, List.set_cons_succ]
            refine wpAnyH_take (i := 5) (v := ?v124) rfl (by kernel_rfl) (by kernel_rfl) (by kernel_rfl) (fun _ _ _ h => h) (Or.inl ⟨rfl, fun w' hw' => ?h124⟩) hHeld ?r124
            case h124 =>
              go_simp
              try with_reducible rfl
            simp only [List.getElem_toArray, List.getElem_cons_succ, List.getElem_cons_zero, Act.put, List.setIfInBounds_toArray, List.set_cons_zero, List.set_cons_succ]
            refine wpAnyH_take (i := 6) (v := ?v125) rfl (by kernel_rfl) (by kernel_rfl) (by kernel_rfl) (fun _ _ _ h => h) (Or.inl ⟨rfl, fun w' hw' => ?h125⟩) hHeld ?r125
            case h125 =>
              go_simp
              try with_reducible rfl
            simp only [List.getElem_toArray, List.getElem_cons_succ, List.getElem_cons_zero, Act.put, List.setIfInBounds_toArray, List.set_cons_zero, List.set_cons_succ]
            refine wpAnyH_take (i := 7) (v := ?v126) rfl (by kernel_rfl) (by kernel_rfl) (by kernel_rfl) (fun _ _ _ h => h) (Or.inl ⟨rfl, fun w' hw' => ?h126⟩) hHeld ?r126
            case h126 =>
              go_simp
              try with_reducible rfl
            simp only [List.getElem_toArray, List.getElem_cons_succ, List.getElem_cons_zero, Act.put, List.setIfInBounds_toArray, List.set_cons_zero, List.set_cons_succ]
            refine wpAnyH_take (i := 8) (v := ?v127) rfl (by kernel_rfl) (by kernel_rfl) (by kernel_rfl) (fun _ _ _ h => h) (Or.inl ⟨rfl, fun w' hw' => ?h127⟩) hHeld ?r127
            case h127 =>
              (obtain ⟨_, d0⟩ := hw'; go_simp)
              try with_reducible rfl
            simp only [List.getElem_toArray, List.getElem_cons_succ, List.getElem_cons_zero, Act.put, List.setIfInBounds_toArray, List.set_cons_zero, List.set_cons_succ]
            refine wpAnyH_take (i := 10) (v := ?v128) rfl (by kernel_rfl) (by kernel_rfl) (by kernel_rfl) (fun _ _ _ h => h) (Or.inl ⟨rfl, fun w' hw' => ?h128⟩) hHeld ?r128
            case h128 =>
              go_simp
              try with_reducible rfl
            simp only [List.getElem_toArray, List.getElem_cons_succ, List.getElem_cons_zero, Act.put, List.setIfInBounds_toArray, List.set_cons_zero, List.set_cons_succ]
            refine wpAnyH_take (i := 11) (v := ?v129) rfl (by kernel_rfl) (by kernel_rfl) (by kernel_rfl) (fun _ _ _ h => h) (Or.inl ⟨rfl, fun w' hw' => ?h129⟩) hHeld ?r129
            case h129 =>
              go_simp
              try with_reducible rfl
            simp only [List.getElem_toArray, List.getElem_cons_succ, List.getElem_cons_zero, Act.put, List.setIfInBounds_toArray, List.set_cons_zero, List.set_cons_succ]
            refine wpAnyH_take (i := 12) (v := Value.bool true) rfl (by kernel_rfl) (by kernel_rfl) (by kernel_rfl) (fun _ _ _ h => h) (Or.inl ⟨rfl, fun w' hw' => ?_⟩) hHeld ?_
            · (go_simp; try (first | exact Q3.out | simp [Q3.out]))
            simp only [List.getElem_toArray, List.getElem_cons_succ, List.getElem_cons_zero, Act.put, List.setIfInBounds_toArray, List.set_cons_zero, List.set_cons_succ]
            refine wpAnyH_ready (rs := [9]) (by kernel_rfl) (by simp) ?_
            refine (AllReadyH.cons rfl (fun K hK => ?_) AllReadyH.nil)
            go_simp
            refine F29.out.mono ?_
            rintro e u1 h1
            obtain rfl := h1.1
            have P1 := Lib.hid h1
            have hS1 := LCO.out u1 h1
            have F23 := Lib.hid (used_o P1.out OFT.out)
            have F25 := Lib.hid (objs_o P1.out OFL.out)
            clear h1 F29
            refine hK.out _ _ hS1 (fun hHeld => ?_)
            clear hK K
            try simp only [List.getElem_toArray, List.getElem_cons_succ, List.getElem_cons_zero, Act.put, List.setIfInBounds_toArray, List.set_cons_zero, List.set_cons_succ]
            refine wpAnyH_take (i := 13) (v := ?v131) rfl (by kernel_rfl) (by kernel_rfl) (by kernel_rfl) (fun _ _ _ h => h) (Or.inl ⟨rfl, fun w' hw' => ?h131⟩) hHeld ?r131
            case h131 =>
              go_simp
              try with_reducible rfl
            simp only [List.getElem_toArray, List.getElem_cons_succ, List.getElem_cons_zero, Act.put, List.setIfInBounds_toArray, List.set_cons_zero, List.set_cons_succ]
            refine wpAnyH_take (i := 14) (v := ?v132) rfl (by kernel_rfl) (by kernel_rfl) (by kernel_rfl) (fun _ _ _ h => h) (Or.inl ⟨rfl, fun w' hw' => ?h132⟩) hHeld ?r132
            case h132 =>
              go_simp
              try with_reducible rfl
            simp only [List.getElem_toArray, List.getElem_cons_succ, List.getElem_cons_zero, Act.put, List.setIfInBounds_toArray, List.set_cons_zero, List.set_cons_succ]
            refine wpAnyH_take (i := 15) (v := ?v133) rfl (by kernel_rfl) (by kernel_rfl) (by kernel_rfl) (fun _ _ _ h => h) (Or.inl ⟨rfl, fun w' hw' => ?h133⟩) hHeld ?r133
            case h133 =>
              go_simp
              try with_reducible rfl
            simp only [List.getElem_toArray, List.getElem_cons_succ, List.getElem_cons_zero, Act.put, List.setIfInBounds_toArray, List.set_cons_zero, List.set_cons_succ]
            refine wpAnyH_take (i := 17) (v := ?v134) rfl (by kernel_rfl) (by kernel_rfl) (by kernel_rfl) (fun _ _ _ h => h) (Or.inl ⟨rfl, fun w' hw' => ?h134⟩) hHeld ?r134
            case h134 =>
              go_simp
              try with_reducible rfl
            simp only [List.getElem_toArray, List.getElem_cons_succ, List.getElem_cons_zero, Act.put, List.setIfInBounds_toArray, List.set_cons_zero, List.set_cons_succ]
            refine wpAnyH_ready (rs := [16]) (by kernel_rfl) (by simp) ?_
            refine (AllReadyH.cons rfl (fun K hK => ?_) AllReadyH.nil)
            go_simp
            refine F23.out.mono ?_
            rintro e u2 ⟨rfl, rfl⟩
            refine hK.out _ _ hHeld (fun hHeld => ?_)
            clear hK K
            try simp only [List.getElem_toArray, List.getElem_cons_succ, List.getElem_cons_zero, Act.put, List.setIfInBounds_toArray, List.set_cons_zero, List.set_cons_succ]
            refine wpAnyH_take (i := 18) (v := ?v135) rfl (by kernel_rfl) (by kernel_rfl) (by kernel_rfl) (fun _ _ _ h => h) (Or.inl ⟨rfl, fun w' hw' => ?h135⟩) hHeld ?r135
            case h135 =>
              go_simp
              try with_reducible rfl
            simp only [List.getElem_toArray, List.getElem_cons_succ, List.getElem_cons_zero, Act.put, List.setIfInBounds_toArray, List.set_cons_zero, List.set_cons_succ]
            refine wpAnyH_take (i := 19) (v := ?v136) rfl (by kernel_rfl) (by kernel_rfl) (by kernel_rfl) (fun _ _ _ h => h) (Or.inl ⟨rfl, fun w' hw' => ?h136⟩) hHeld ?r136
            case h136 =>
              go_simp
              try with_reducible rfl
            simp only [List.getElem_toArray, List.getElem_cons_succ, List.getElem_cons_zero, Act.put, List.setIfInBounds_toArray, List.set_cons_zero, List.set_cons_succ]
            refine wpAnyH_take (i := 20) (v := ?v137) rfl (by kernel_rfl) (by kernel_rfl) (by kernel_rfl) (fun _ _ _ h => h) (Or.inl ⟨rfl, fun w' hw' => ?h137⟩) hHeld ?r137
            case h137 =>
              go_simp
              try with_reducible rfl
            simp only [List.getElem_toArray, List.getElem_cons_succ, List.getElem_cons_zero, Act.put, List.setIfInBounds_toArray, List.set_cons_zero, List.set_cons_succ]
            refine wpAnyH_take (i := 21) (v := ?v138) rfl (by kernel_rfl) (by kernel_rfl) (by kernel_rfl) (fun _ _ _ h => h) (Or.inl ⟨rfl, fun w' hw' => ?h138⟩) hHeld ?r138
            case h138 =>
              go_simp
              try with_reducible rfl
            simp only [List.getElem_toArray, List.getElem_cons_succ, List.getElem_cons_zero, Act.put, List.setIfInBounds_toArray, List.set_cons_zero, List.set_cons_succ]
            refine wpAnyH_take (i := 24) (v := ?v139) rfl (by kernel_rfl) (by kernel_rfl) (by kernel_rfl) (fun _ _ _ h => h) (Or.inl ⟨rfl, fun w' hw' => ?h139⟩) hHeld ?r139
            case h139 =>
              go_simp
              try with_reducible rfl
            simp only [List.getElem_toArray, List.getElem_cons_succ, List.getElem_cons_zero, Act.put, List.setIfInBounds_toArray, List.set_cons_zero, List.set_cons_succ]
            refine wpAnyH_take (i := 25) (v := ?v140) rfl (by kernel_rfl) (by kernel_rfl) (by kernel_rfl) (fun _ _ _ h => h) (Or.inl ⟨rfl, fun w' hw' => ?h140⟩) hHeld ?r140
            case h140 =>
              go_simp
              try with_reducible rfl
            simp only [List.getElem_toArray, List.getElem_cons_succ, List.getElem_cons_zero, Act.put, List.setIfInBounds_toArray, List.set_cons_zero, List.set_cons_succ]
            refine wpAnyH_ready (rs := [22]) (by kernel_rfl) (by simp) ?_
            refine (AllReadyH.cons rfl (fun K hK => ?_) AllReadyH.nil)
            go_simp
            refine F25.out.mono ?_
            rintro e u3 ⟨ao3, c3, rfl, hb3⟩
            have B3 := Lib.hid hb3
            have hS3 := LCP.out u1 u3 hHeld B3.out
            clear hb3 F25
            refine hK.out _ _ hS3 (fun hHeld => ?_)
            clear hK K
            try simp only [List.getElem_toArray, List.getElem_cons_succ, List.getElem_cons_zero, Act.put, List.setIfInBounds_toArray, List.set_cons_zero, List.set_cons_succ]
            refine wpAnyH_take (i := 23) (v := ?v141) rfl (by kernel_rfl) (by kernel_rfl) (by kernel_rfl) (fun _ _ _ h => h) (Or.inl ⟨rfl, fun w' hw' => ?h141⟩) hHeld ?r141
            case h141 =>
              go_simp
              try with_reducible rfl
            simp only [List.getElem_toArray, List.getElem_cons_succ, List.getElem_cons_zero, Act.put, List.setIfInBounds_toArray, List.set_cons_zero, List.set_cons_succ]
            refine wpAnyH_take (i := 26) (v := ?v142) rfl (by kernel_rfl) (by kernel_rfl) (by kernel_rfl) (fun _ _ _ h => h) (Or.inl ⟨rfl, fun w' hw' => ?h142⟩) hHeld ?r142
            case h142 =>
              go_simp
              try with_reducible rfl
            simp only [List.getElem_toArray, List.getElem_cons_succ, List.getElem_cons_zero, Act.put, List.setIfInBounds_toArray, List.set_cons_zero, List.set_cons_succ]
            refine wpAnyH_take (i := 27) (v := ?v143) rfl (by kernel_rfl) (by kernel_rfl) (by kernel_rfl) (fun _ _ _ h => h) (Or.inl ⟨rfl, fun w' hw' => ?h143⟩) hHeld ?r143
            case h143 =>
              go_simp
              try with_reducible rfl
            simp only [List.getElem_toArray, List.getElem_cons_succ, List.getElem_cons_zero, Act.put, List.setIfInBounds_toArray, List.set_cons_zero, List.set_cons_succ]
            refine wpAnyH_done (by kernel_rfl) ?_ _
            refine NoPanic.normal ?_
            have hHeld0 := hHeld
            clear hHeld
            have HH3 := Lib.hid hHeld0
            clear hHeld0
            have H3 := Lib.hid (hpo_of P1.out B3.out)
            have F27 := Lib.hid (ptrs_one H3.out (li : Int) HIB.out.1 HIB.out.2 OFP.out.1)
            obtain ⟨d0, d1⟩ := HH3.out
            have hq : ((i1 : Int) = (j1 : Int)) = False := eq_false Q3.out
            have hq2 : decide ((i1 : Int) = (j1 : Int)) = false := decide_eq_false Q3.out
            go_wp2_with fail
            refine F27.out.mono ?_
            rintro e u4 ⟨gp, cp, rfl, hb4, hgp, hgp2⟩
            have B4 := Lib.hid hb4
            have GP := Lib.hid hgp
            have GPC := Lib.hid hgp2
            have hL4 := LCP.out u3 u4 HH3.out hb4
            clear hb4 hgp hgp2 d0 d1 F27
            go_upto_region 20 with fail
            refine wp_region_noPanic ?_
            have hbx := (Below.refl u4.heap.size u4).drew
            refine wp_region_held_drew (S := fun W => W.cell? ⟨g, i1, none⟩ = some (.int .i64 (li : Nat)) ∧ W.cell? ⟨g, j1, none⟩ = some (.int .i64 (lj : Nat))) (by kernel_rfl) (LCP.out u4 _ hL4 hbx) (fun hHeld => ?_)
            generalize u4.drew = X2 at hHeld hbx ⊢
            have HB2 := Lib.hid hbx
            clear hbx hL4
            have B5 := Lib.hid (B3.out.trans ((B4.out.trans (HB2.out.mono B4.out.size)).mono B3.out.size))
            have F30 := Lib.hid (RO.out X2 (HP1.out.rh_own HBX.out P1.out B5.out))
            have CS := Lib.hid (HP1.out.rh_own HBX.out P1.out (Below.refl u1.heap.size u1)).fresh
            have LC6 : Hid (∀ W, RetR (.bool true) x C os' 200 X2 (.returned (.bool true)) W → W.cell? ⟨g, i1, none⟩ = some (.int .i64 (li : Nat)) ∧ W.cell? ⟨g, j1, none⟩ = some (.int .i64 (lj : Nat))) := fun W h => by
              obtain ⟨-, C', qs', -, h2, -⟩ := h
              have hn : ¬ C g ≠ 0 := fun e => HGF.out (.inr e)
              have hL := LCP.out u3 X2 HH3.out (B4.out.trans (HB2.out.mono B4.out.size))
              exact ⟨h2.cellAt hL.1 hn, h2.cellAt hL.2 hn⟩
            refine wpAnyH_take (i := 0) (v := ?v144) rfl (by kernel_rfl) (by kernel_rfl) (by kernel_rfl) (fun _ _ _ h => h) (Or.inl ⟨rfl, fun w' hw' => ?h144⟩) hHeld ?r144
            case h144 =>
              go_simp
              try with_reducible rfl
            simp only [List.getElem_toArray, List.getElem_cons_succ, List.getElem_cons_zero, Act.put, List.setIfInBounds_toArray, List.set_cons_zero, List.set_cons_succ]
            refine wpAnyH_take (i := 1) (v := ?v145) rfl (by kernel_rfl) (by kernel_rfl) (by kernel_rfl) (fun _ _ _ h => h) (Or.inl ⟨rfl, fun w' hw' => ?h145⟩) hHeld ?r145
            case h145 =>
              go_simp
              try with_reducible rfl
            simp only [List.getElem_toArray, List.getElem_cons_succ, List.getElem_cons_zero, Act.put, List.setIfInBounds_toArray, List.set_cons_zero, List.set_cons_succ]
            refine wpAnyH_take (i := 2) (v := ?v146) rfl (by kernel_rfl) (by kernel_rfl) (by kernel_rfl) (fun _ _ _ h => h) (Or.inl ⟨rfl, fun w' hw' => ?h146⟩) hHeld ?r146
            case h146 =>
              go_simp
              try with_reducible rfl
            simp only [List.getElem_toArray, List.getElem_cons_succ, List.getElem_cons_zero, Act.put, List.setIfInBounds_toArray, List.set_cons_zero, List.set_cons_succ]
            refine wpAnyH_take (i := 3) (v := ?v147) rfl (by kernel_rfl) (by kernel_rfl) (by kernel_rfl) (fun _ _ _ h => h) (Or.inl ⟨rfl, fun w' hw' => ?h147⟩) hHeld ?r147
            case h147 =>
              go_simp
              try with_reducible rfl
            simp only [List.getElem_toArray, List.getElem_cons_succ, List.getElem_cons_zero, Act.put, List.setIfInBounds_toArray, List.set_cons_zero, List.set_cons_succ]
            refine wpAnyH_take (i := 4) (v := ?v148) rfl (by kernel_rfl) (by kernel_rfl) (by kernel_rfl) (fun _ _ _ h => h) (Or.inl ⟨rfl, fun w' hw' => ?h148⟩) hHeld ?r148
            case h148 =>
              (obtain ⟨d0, _⟩ := hw'; go_simp)
              try with_reducible rfl
            simp only [List.getElem_toArray, List.getElem_cons_succ, List.getElem_cons_zero, Act.put, List.setIfInBounds_toArray, List.set_cons_zero, List.set_cons_succ]
            refine wpAnyH_take (i := 5) (v := ?v149) rfl (by kernel_rfl) (by kernel_rfl) (by kernel_rfl) (fun _ _ _ h => h) (Or.inl ⟨rfl, fun w' hw' => ?h149⟩) hHeld ?r149
            case h149 =>
              go_simp
              try with_reducible rfl
            simp only [List.getElem_toArray, List.getElem_cons_succ, List.getElem_cons_zero, Act.put, List.setIfInBounds_toArray, List.set_cons_zero, List.set_cons_succ]
            refine wpAnyH_take (i := 6) (v := ?v150) rfl (by kernel_rfl) (by kernel_rfl) (by kernel_rfl) (fun _ _ _ h => h) (Or.inl ⟨rfl, fun w' hw' => ?h150⟩) hHeld ?r150
            case h150 =>
              go_simp
              try with_reducible rfl
            simp only [List.getElem_toArray, List.getElem_cons_succ, List.getElem_cons_zero, Act.put, List.setIfInBounds_toArray, List.set_cons_zero, List.set_cons_succ]
            refine wpAnyH_take (i := 7) (v := ?v151) rfl (by kernel_rfl) (by kernel_rfl) (by kernel_rfl) (fun _ _ _ h => h) (Or.inl ⟨rfl, fun w' hw' => ?h151⟩) hHeld ?r151
            case h151 =>
              go_simp
              try with_reducible rfl
            simp only [List.getElem_toArray, List.getElem_cons_succ, List.getElem_cons_zero, Act.put, List.setIfInBounds_toArray, List.set_cons_zero, List.set_cons_succ]
            refine wpAnyH_take (i := 8) (v := ?v152) rfl (by kernel_rfl) (by kernel_rfl) (by kernel_rfl) (fun _ _ _ h => h) (Or.inl ⟨rfl, fun w' hw' => ?h152⟩) hHeld ?r152
            case h152 =>
              (obtain ⟨_, d0⟩ := hw'; go_simp)
              try with_reducible rfl
            simp only [List.getElem_toArray, List.getElem_cons_succ, List.getElem_cons_zero, Act.put, List.setIfInBounds_toArray, List.set_cons_zero, List.set_cons_succ]
            refine wpAnyH_ready (rs := [9]) (by kernel_rfl) (by simp) ?_
            refine (AllReadyH.cons rfl (fun K hK => ?_) AllReadyH.nil)
            go_simp
            refine F30.out.mono ?_
            rintro e u6 h6
            obtain rfl := h6.1
            have P6 := Lib.hid h6
            have hS6 := LC6.out u6 h6
            clear h6 F30
            refine hK.out _ _ hS6 (fun hHeld => ?_)
            clear hK K
            try simp only [List.getElem_toArray, List.getElem_cons_succ, List.getElem_cons_zero, Act.put, List.setIfInBounds_toArray, List.set_cons_zero, List.set_cons_succ]
            refine wpAnyH_done (by kernel_rfl) ?_ _
            refine NoPanic.normal ?_
            have hHeld0 := hHeld
            clear hHeld
            have HH6 := Lib.hid hHeld0
            clear hHeld0 LC6 RO
            have HP6 := Lib.hid (HP1.out.both2 HBX.out P1.out P6.out B5.out)
            have GP6 : Hid (u6.cell? ⟨gp, 0, none⟩ = some (.int .i64 (lj : Nat))) := by
              obtain ⟨-, C', qs', -, h2, -⟩ := P6.out
              refine h2.cellAt ((Fr.of_below (F := fun _ => False) HB2.out).cellAt GPC.out (fun h => h)) (fun e => e (CS.out gp ?_))
              have := B3.out.size
              have := GP.out
              omega
            clear P6 P1 CS B5 GPC GP HP1 HP
            obtain ⟨G6, C6, qs6, hp6, -⟩ := HP6.out
            have H6 := Lib.hid hp6
            clear hp6 HP6
            have hbel := H6.out.hl.bel
            have HBEL := Lib.hid hbel
            clear hbel
            go_upto_region 21 with fail
            refine wp_region_noPanic ?_
            have hbx := (Below.refl u6.heap.size u6).drew
            have LC7 : Hid (∀ W, Below u6.heap.size u6 W → (W.cell? ⟨g, i1, none⟩ = some (.int .i64 (li : Nat)) ∧ W.cell? ⟨g, j1, none⟩ = some (.int .i64 (lj : Nat))) ∧ W.cell? ⟨gp, 0, none⟩ = some (.int .i64 (lj : Nat))) := fun W hb => ⟨LCP.out u6 W HH6.out hb, (Fr.of_below (F := fun _ => False) hb).cellAt GP6.out (fun h => h)⟩
            refine wp_region_held_drew (S := fun W => (W.cell? ⟨g, i1, none⟩ = some (.int .i64 (li : Nat)) ∧ W.cell? ⟨g, j1, none⟩ = some (.int .i64 (lj : Nat))) ∧ W.cell? ⟨gp, 0, none⟩ = some (.int .i64 (lj : Nat))) (by kernel_rfl) (LC7.out _ hbx) (fun hHeld => ?_)
            generalize u6.drew = X3 at hHeld hbx ⊢
            have HBX := Lib.hid hbx
            clear hbx
            have F18 : Hid (Calls Try.prog 18 #[.pointer (some ⟨b, 0, none⟩), .int .i64 (li : Nat)] X3 (RetV (.int .i64 5) X3)) := by
              have h := tagm_any (H6.out.below HBX.out).hl.hp (li : Nat) (by have := HIB.out; omega) (by have := HIB.out; omega)
              rw [OFP.out.2.2] at h
              exact h
            have F28 := Lib.hid (fun W (hb : Below u6.heap.size u6 W) => nums_none (H6.out.below hb).hl.hp (li : Nat) HIB.out.1 HIB.out.2 OFP.out.2.1)
            have F17 := Lib.hid (fun W (hb : Below u6.heap.size u6 W) => same_r (H6.out.below hb))
            refine wpAnyH_take (i := 0) (v := ?v153) rfl (by kernel_rfl) (by kernel_rfl) (by kernel_rfl) (fun _ _ _ h => h) (Or.inl ⟨rfl, fun w' hw' => ?h153⟩) hHeld ?r153
            case h153 =>
              go_simp
              try with_reducible rfl
            simp only [List.getElem_toArray, List.getElem_cons_succ, List.getElem_cons_zero, Act.put, List.setIfInBounds_toArray, List.set_cons_zero, List.set_cons_succ]
            refine wpAnyH_take (i := 1) (v := ?v154) rfl (by kernel_rfl) (by kernel_rfl) (by kernel_rfl) (fun _ _ _ h => h) (Or.inl ⟨rfl, fun w' hw' => ?h154⟩) hHeld ?r154
            case h154 =>
              go_simp
              try with_reducible rfl
            simp only [List.getElem_toArray, List.getElem_cons_succ, List.getElem_cons_zero, Act.put, List.setIfInBounds_toArray, List.set_cons_zero, List.set_cons_succ]
            refine wpAnyH_take (i := 2) (v := ?v155) rfl (by kernel_rfl) (by kernel_rfl) (by kernel_rfl) (fun _ _ _ h => h) (Or.inl ⟨rfl, fun w' hw' => ?h155⟩) hHeld ?r155
            case h155 =>
              go_simp
              try with_reducible rfl
            simp only [List.getElem_toArray, List.getElem_cons_succ, List.getElem_cons_zero, Act.put, List.setIfInBounds_toArray, List.set_cons_zero, List.set_cons_succ]
            refine wpAnyH_take (i := 3) (v := ?v156) rfl (by kernel_rfl) (by kernel_rfl) (by kernel_rfl) (fun _ _ _ h => h) (Or.inl ⟨rfl, fun w' hw' => ?h156⟩) hHeld ?r156
            case h156 =>
              go_simp
              try with_reducible rfl
            simp only [List.getElem_toArray, List.getElem_cons_succ, List.getElem_cons_zero, Act.put, List.setIfInBounds_toArray, List.set_cons_zero, List.set_cons_succ]
            refine wpAnyH_take (i := 4) (v := ?v157) rfl (by kernel_rfl) (by kernel_rfl) (by kernel_rfl) (fun _ _ _ h => h) (Or.inl ⟨rfl, fun w' hw' => ?h157⟩) hHeld ?r157
            case h157 =>
              (obtain ⟨⟨d0, _⟩, _⟩ := hw'; go_simp)
              try with_reducible rfl
            simp only [List.getElem_toArray, List.getElem_cons_succ, List.getElem_cons_zero, Act.put, List.setIfInBounds_toArray, List.set_cons_zero, List.set_cons_succ]
            refine wpAnyH_ready (rs := [5]) (by kernel_rfl) (by simp) ?_
            refine (AllReadyH.cons rfl (fun K hK => ?_) AllReadyH.nil)
            go_simp
            refine F18.out.mono ?_
            rintro e v1 ⟨rfl, hb1⟩
            have K1 := Lib.hid (HBX.out.trans (hb1.mono HBX.out.size))
            have hS1 := LC7.out v1 K1.out
            clear hb1 F18
            refine hK.out _ _ hS1 (fun hHeld => ?_)
            clear hK K
            try simp only [List.getElem_toArray, List.getElem_cons_succ, List.getElem_cons_zero, Act.put, List.setIfInBounds_toArray, List.set_cons_zero, List.set_cons_succ]
            refine wpAnyH_take (i := 6) (v := ?v158) rfl (by kernel_rfl) (by kernel_rfl) (by kernel_rfl) (fun _ _ _ h => h) (Or.inl ⟨rfl, fun w' hw' => ?h158⟩) hHeld ?r158
            case h158 =>
              go_simp
              try with_reducible rfl
            simp only [List.getElem_toArray, List.getElem_cons_succ, List.getElem_cons_zero, Act.put, List.setIfInBounds_toArray, List.set_cons_zero, List.set_cons_succ]
            refine wpAnyH_take (i := 7) (v := ?v159) rfl (by kernel_rfl) (by kernel_rfl) (by kernel_rfl) (fun _ _ _ h => h) (Or.inl ⟨rfl, fun w' hw' => ?h159⟩) hHeld ?r159
            case h159 =>
              go_simp
              try with_reducible rfl
            simp only [List.getElem_toArray, List.getElem_cons_succ, List.getElem_cons_zero, Act.put, List.setIfInBounds_toArray, List.set_cons_zero, List.set_cons_succ]
            refine wpAnyH_take (i := 8) (v := ?v160) rfl (by kernel_rfl) (by kernel_rfl) (by kernel_rfl) (fun _ _ _ h => h) (Or.inl ⟨rfl, fun w' hw' => ?h160⟩) hHeld ?r160
            case h160 =>
              go_simp
              try with_reducible rfl
            simp only [List.getElem_toArray, List.getElem_cons_succ, List.getElem_cons_zero, Act.put, List.setIfInBounds_toArray, List.set_cons_zero, List.set_cons_succ]
            refine wpAnyH_take (i := 9) (v := ?v161) rfl (by kernel_rfl) (by kernel_rfl) (by kernel_rfl) (fun _ _ _ h => h) (Or.inl ⟨rfl, fun w' hw' => ?h161⟩) hHeld ?r161
            case h161 =>
              go_simp
              try with_reducible rfl
            simp only [List.getElem_toArray, List.getElem_cons_succ, List.getElem_cons_zero, Act.put, List.setIfInBounds_toArray, List.set_cons_zero, List.set_cons_succ]
            refine wpAnyH_take (i := 10) (v := ?v162) rfl (by kernel_rfl) (by kernel_rfl) (by kernel_rfl) (fun _ _ _ h => h) (Or.inl ⟨rfl, fun w' hw' => ?h162⟩) hHeld ?r162
            case h162 =>
              go_simp
              try with_reducible rfl
            simp only [List.getElem_toArray, List.getElem_cons_succ, List.getElem_cons_zero, Act.put, List.setIfInBounds_toArray, List.set_cons_zero, List.set_cons_succ]
            refine wpAnyH_take (i := 11) (v := ?v163) rfl (by kernel_rfl) (by kernel_rfl) (by kernel_rfl) (fun _ _ _ h => h) (Or.inl ⟨rfl, fun w' hw' => ?h163⟩) hHeld ?r163
            case h163 =>
              go_simp
              try with_reducible rfl
            simp only [List.getElem_toArray, List.getElem_cons_succ, List.getElem_cons_zero, Act.put, List.setIfInBounds_toArray, List.set_cons_zero, List.set_cons_succ]
            refine wpAnyH_take (i := 12) (v := ?v164) rfl (by kernel_rfl) (by kernel_rfl) (by kernel_rfl) (fun _ _ _ h => h) (Or.inl ⟨rfl, fun w' hw' => ?h164⟩) hHeld ?r164
            case h164 =>
              go_simp
              try with_reducible rfl
            simp only [List.getElem_toArray, List.getElem_cons_succ, List.getElem_cons_zero, Act.put, List.setIfInBounds_toArray, List.set_cons_zero, List.set_cons_succ]
            refine wpAnyH_take (i := 13) (v := ?v165) rfl (by kernel_rfl) (by kernel_rfl) (by kernel_rfl) (fun _ _ _ h => h) (Or.inl ⟨rfl, fun w' hw' => ?h165⟩) hHeld ?r165
            case h165 =>
              go_simp
              try with_reducible rfl
            simp only [List.getElem_toArray, List.getElem_cons_succ, List.getElem_cons_zero, Act.put, List.setIfInBounds_toArray, List.set_cons_zero, List.set_cons_succ]
            refine wpAnyH_take (i := 14) (v := ?v166) rfl (by kernel_rfl) (by kernel_rfl) (by kernel_rfl) (fun _ _ _ h => h) (Or.inl ⟨rfl, fun w' hw' => ?h166⟩) hHeld ?r166
            case h166 =>
              go_simp
              try with_reducible rfl
            simp only [List.getElem_toArray, List.getElem_cons_succ, List.getElem_cons_zero, Act.put, List.setIfInBounds_toArray, List.set_cons_zero, List.set_cons_succ]
            refine wpAnyH_take (i := 15) (v := ?v167) rfl (by kernel_rfl) (by kernel_rfl) (by kernel_rfl) (fun _ _ _ h => h) (Or.inl ⟨rfl, fun w' hw' => ?h167⟩) hHeld ?r167
            case h167 =>
              (obtain ⟨_, d0⟩ := hw'; go_simp)
              try with_reducible rfl
            simp only [List.getElem_toArray, List.getElem_cons_succ, List.getElem_cons_zero, Act.put, List.setIfInBounds_toArray, List.set_cons_zero, List.set_cons_succ]
            refine wpAnyH_take (i := 16) (v := ?v168) rfl (by kernel_rfl) (by kernel_rfl) (by kernel_rfl) (fun _ _ _ h => h) (Or.inl ⟨rfl, fun w' hw' => ?h168⟩) hHeld ?r168
            case h168 =>
              go_simp
              try with_reducible rfl
            simp only [List.getElem_toArray, List.getElem_cons_succ, List.getElem_cons_zero, Act.put, List.setIfInBounds_toArray, List.set_cons_zero, List.set_cons_succ]
            refine wpAnyH_take (i := 17) (v := ?v169) rfl (by kernel_rfl) (by kernel_rfl) (by kernel_rfl) (fun _ _ _ h => h) (Or.inl ⟨rfl, fun w' hw' => ?h169⟩) hHeld ?r169
            case h169 =>
              go_simp
              try with_reducible rfl
            simp only [List.getElem_toArray, List.getElem_cons_succ, List.getElem_cons_zero, Act.put, List.setIfInBounds_toArray, List.set_cons_zero, List.set_cons_succ]
            refine wpAnyH_take (i := 18) (v := ?v170) rfl (by kernel_rfl) (by kernel_rfl) (by kernel_rfl) (fun _ _ _ h => h) (Or.inl ⟨rfl, fun w' hw' => ?h170⟩) hHeld ?r170
            case h170 =>
              go_simp
              try with_reducible rfl
            simp only [List.getElem_toArray, List.getElem_cons_succ, List.getElem_cons_zero, Act.put, List.setIfInBounds_toArray, List.set_cons_zero, List.set_cons_succ]
            refine wpAnyH_take (i := 19) (v := ?v171) rfl (by kernel_rfl) (by kernel_rfl) (by kernel_rfl) (fun _ _ _ h => h) (Or.inl ⟨rfl, fun w' hw' => ?h171⟩) hHeld ?r171
            case h171 =>
              (obtain ⟨⟨_, d0⟩, _⟩ := hw'; go_simp)
              try with_reducible rfl
            simp only [List.getElem_toArray, List.getElem_cons_succ, List.getElem_cons_zero, Act.put, List.setIfInBounds_toArray, List.set_cons_zero, List.set_cons_succ]
            refine wpAnyH_take (i := 20) (v := ?v172) rfl (by kernel_rfl) (by kernel_rfl) (by kernel_rfl) (fun _ _ _ h => h) (Or.inl ⟨rfl, fun w' hw' => ?h172⟩) hHeld ?r172
            case h172 =>
              go_simp
              try with_reducible rfl
            simp only [List.getElem_toArray, List.getElem_cons_succ, List.getElem_cons_zero, Act.put, List.setIfInBounds_toArray, List.set_cons_zero, List.set_cons_succ]
            refine wpAnyH_take (i := 21) (v := ?v173) rfl (by kernel_rfl) (by kernel_rfl) (by kernel_rfl) (fun _ _ _ h => h) (Or.inl ⟨rfl, fun w' hw' => ?h173⟩) hHeld ?r173
            case h173 =>
              go_simp
              try with_reducible rfl
            simp only [List.getElem_toArray, List.getElem_cons_succ, List.getElem_cons_zero, Act.put, List.setIfInBounds_toArray, List.set_cons_zero, List.set_cons_succ]
            refine wpAnyH_take (i := 22) (v := ?v174) rfl (by kernel_rfl) (by kernel_rfl) (by kernel_rfl) (fun _ _ _ h => h) (Or.inl ⟨rfl, fun w' hw' => ?h174⟩) hHeld ?r174
            case h174 =>
              go_simp
              try with_reducible rfl
            simp only [List.getElem_toArray, List.getElem_cons_succ, List.getElem_cons_zero, Act.put, List.setIfInBounds_toArray, List.set_cons_zero, List.set_cons_succ]
            refine wpAnyH_take (i := 23) (v := ?v175) rfl (by kernel_rfl) (by kernel_rfl) (by kernel_rfl) (fun _ _ _ h => h) (Or.inl ⟨rfl, fun w' hw' => ?h175⟩) hHeld ?r175
            case h175 =>
              go_simp
              try with_reducible rfl
            simp only [List.getElem_toArray, List.getElem_cons_succ, List.getElem_cons_zero, Act.put, List.setIfInBounds_toArray, List.set_cons_zero, List.set_cons_succ]
            refine wpAnyH_take (i := 24) (v := ?v176) rfl (by kernel_rfl) (by kernel_rfl) (by kernel_rfl) (fun _ _ _ h => h) (Or.inl ⟨rfl, fun w' hw' => ?h176⟩) hHeld ?r176
            case h176 =>
              go_simp
              try with_reducible rfl
            simp only [List.getElem_toArray, List.getElem_cons_succ, List.getElem_cons_zero, Act.put, List.setIfInBounds_toArray, List.set_cons_zero, List.set_cons_succ]
            refine wpAnyH_take (i := 25) (v := ?v177) rfl (by kernel_rfl) (by kernel_rfl) (by kernel_rfl) (fun _ _ _ h => h) (Or.inl ⟨rfl, fun w' hw' => ?h177⟩) hHeld ?r177
            case h177 =>
              go_simp
              try with_reducible rfl
            simp only [List.getElem_toArray, List.getElem_cons_succ, List.getElem_cons_zero, Act.put, List.setIfInBounds_toArray, List.set_cons_zero, List.set_cons_succ]
            refine wpAnyH_take (i := 26) (v := ?v178) rfl (by kernel_rfl) (by kernel_rfl) (by kernel_rfl) (fun _ _ _ h => h) (Or.inl ⟨rfl, fun w' hw' => ?h178⟩) hHeld ?r178
            case h178 =>
              go_simp
              try with_reducible rfl
            simp only [List.getElem_toArray, List.getElem_cons_succ, List.getElem_cons_zero, Act.put, List.setIfInBounds_toArray, List.set_cons_zero, List.set_cons_succ]
            refine wpAnyH_take (i := 27) (v := ?v179) rfl (by kernel_rfl) (by kernel_rfl) (by kernel_rfl) (fun _ _ _ h => h) (Or.inl ⟨rfl, fun w' hw' => ?h179⟩) hHeld ?r179
            case h179 =>
              (obtain ⟨⟨d0, _⟩, _⟩ := hw'; go_simp)
              try with_reducible rfl
            simp only [List.getElem_toArray, List.getElem_cons_succ, List.getElem_cons_zero, Act.put, List.setIfInBounds_toArray, List.set_cons_zero, List.set_cons_succ]
            refine wpAnyH_ready (rs := [28]) (by kernel_rfl) (by simp) ?_
            refine (AllReadyH.cons rfl (fun K hK => ?_) AllReadyH.nil)
            go_simp
            refine (F28.out v1 K1.out).mono ?_
            rintro e v2 ⟨ao8, c8, rfl, hb2⟩
            have K2 := Lib.hid (K1.out.trans (hb2.mono K1.out.size))
            have hS2 := LC7.out v2 K2.out
            clear hb2
            refine hK.out _ _ hS2 (fun hHeld => ?_)
            clear hK K
            try simp only [List.getElem_toArray, List.getElem_cons_succ, List.getElem_cons_zero, Act.put, List.setIfInBounds_toArray, List.set_cons_zero, List.set_cons_succ]
            refine wpAnyH_take (i := 29) (v := ?v180) rfl (by kernel_rfl) (by kernel_rfl) (by kernel_rfl) (fun _ _ _ h => h) (Or.inl ⟨rfl, fun w' hw' => ?h180⟩) hHeld ?r180
            case h180 =>
              go_simp
              try with_reducible rfl
            simp only [List.getElem_toArray, List.getElem_cons_succ, List.getElem_cons_zero, Act.put, List.setIfInBounds_toArray, List.set_cons_zero, List.set_cons_succ]
            refine wpAnyH_take (i := 30) (v := ?v181) rfl (by kernel_rfl) (by kernel_rfl) (by kernel_rfl) (fun _ _ _ h => h) (Or.inl ⟨rfl, fun w' hw' => ?h181⟩) hHeld ?r181
            case h181 =>
              go_simp
              try with_reducible rfl
            simp only [List.getElem_toArray, List.getElem_cons_succ, List.getElem_cons_zero, Act.put, List.setIfInBounds_toArray, List.set_cons_zero, List.set_cons_succ]
            refine wpAnyH_take (i := 31) (v := ?v182) rfl (by kernel_rfl) (by kernel_rfl) (by kernel_rfl) (fun _ _ _ h => h) (Or.inl ⟨rfl, fun w' hw' => ?h182⟩) hHeld ?r182
            case h182 =>
              go_simp
              try with_reducible rfl
            simp only [List.getElem_toArray, List.getElem_cons_succ, List.getElem_cons_zero, Act.put, List.setIfInBounds_toArray, List.set_cons_zero, List.set_cons_succ]
            refine wpAnyH_take (i := 32) (v := ?v183) rfl (by kernel_rfl) (by kernel_rfl) (by kernel_rfl) (fun _ _ _ h => h) (Or.inl ⟨rfl, fun w' hw' => ?h183⟩) hHeld ?r183
            case h183 =>
              go_simp
              try with_reducible rfl
            simp only [List.getElem_toArray, List.getElem_cons_succ, List.getElem_cons_zero, Act.put, List.setIfInBounds_toArray, List.set_cons_zero, List.set_cons_succ]
            refine wpAnyH_take (i := 33) (v := ?v184) rfl (by kernel_rfl) (by kernel_rfl) (by kernel_rfl) (fun _ _ _ h => h) (Or.inl ⟨rfl, fun w' hw' => ?h184⟩) hHeld ?r184
            case h184 =>
              go_simp
              try with_reducible rfl
            simp only [List.getElem_toArray, List.getElem_cons_succ, List.getElem_cons_zero, Act.put, List.setIfInBounds_toArray, List.set_cons_zero, List.set_cons_succ]
            refine wpAnyH_take (i := 34) (v := ?v185) rfl (by kernel_rfl) (by kernel_rfl) (by kernel_rfl) (fun _ _ _ h => h) (Or.inl ⟨rfl, fun w' hw' => ?h185⟩) hHeld ?r185
            case h185 =>
              go_simp
              try with_reducible rfl
            simp only [List.getElem_toArray, List.getElem_cons_succ, List.getElem_cons_zero, Act.put, List.setIfInBounds_toArray, List.set_cons_zero, List.set_cons_succ]
            refine wpAnyH_ready (rs := [35]) (by kernel_rfl) (by simp) ?_
            refine (AllReadyH.cons rfl (fun K hK => ?_) AllReadyH.nil)
            go_simp
            refine (F17.out v2 K2.out).mono ?_
            rintro e v3 ⟨rfl, hb3⟩
            have K3 := Lib.hid (K2.out.trans (hb3.mono K2.out.size))
            have hS3 := LC7.out v3 K3.out
            clear hb3
            refine hK.out _ _ hS3 (fun hHeld => ?_)
            clear hK K
            try simp only [List.getElem_toArray, List.getElem_cons_succ, List.getElem_cons_zero, Act.put, List.setIfInBounds_toArray, List.set_cons_zero, List.set_cons_succ]
            refine wpAnyH_take (i := 36) (v := ?v186) rfl (by kernel_rfl) (by kernel_rfl) (by kernel_rfl) (fun _ _ _ h => h) (Or.inl ⟨rfl, fun w' hw' => ?h186⟩) hHeld ?r186
            case h186 =>
              go_simp
              try with_reducible rfl
            simp only [List.getElem_toArray, List.getElem_cons_succ, List.getElem_cons_zero, Act.put, List.setIfInBounds_toArray, List.set_cons_zero, List.set_cons_succ]
            refine wpAnyH_take (i := 37) (v := ?v187) rfl (by kernel_rfl) (by kernel_rfl) (by kernel_rfl) (fun _ _ _ h => h) (Or.inl ⟨rfl, fun w' hw' => ?h187⟩) hHeld ?r187
            case h187 =>
              go_simp
              try with_reducible rfl
            simp only [List.getElem_toArray, List.getElem_cons_succ, List.getElem_cons_zero, Act.put, List.setIfInBounds_toArray, List.set_cons_zero, List.set_cons_succ]
            refine wpAnyH_done (by kernel_rfl) ?_ _
            refine NoPanic.normal ?_
            clear hHeld
            go_wp2_with fail
            go_ret
            exact ⟨rfl, HBEL.out.trans (K3.out.mono HBEL.out.size)⟩
end Go.Proofs.Ytogpmpnojlepoaa
