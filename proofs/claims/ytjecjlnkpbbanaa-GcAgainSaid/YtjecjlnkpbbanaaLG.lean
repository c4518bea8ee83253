/- GcAgain, walked. -/
import Derived.Test.YtjecjlnkpbbanaaL21
import Derived.Test.YtjecjlnkpbbanaaZG
import Derived.Test.YtjecjlnkpbbanaaZB
namespace Go.Proofs.Ytjecjlnkpbbanaa
open Go Go.RowKit
set_option linter.unusedVariables false
set_option linter.unusedSimpArgs false
def AgInv (W : World) (n : Nat) (iv : Value) (wr : World) : Prop := ∃ j : Nat, j ≤ n ∧ iv = .int .i64 (j : Int) ∧ Below W.heap.size W wr
theorem IRw.len6 {w : World} {g : Nat} {l : List Int} (h : IRw w g l) : IsS w (.slice (some ⟨g, 0, none⟩) l.length l.length) l := block_isS h
set_option maxHeartbeats 16000000 in
set_option maxRecDepth 100000 in
theorem again_walk (a : Option Addr) (len cap : Nat) (zs : List Int) (a2 : Option Addr) (len2 cap2 : Nat) (zs2 : List Int) (w : World) (hA : IsRow .i64 w a len cap zs) (hA2 : IsRow .i64 w a2 len2 cap2 zs2) :
    Calls Try.prog 4 #[.slice a len cap, .slice a2 len2 cap2] w (RetV (.bool true) w) := by
  have HA := Lib.hid hA.arg
  have HA2 := Lib.hid hA2.arg
  clear hA hA2 zs zs2
  go_enter Try.func4, Try.ntmps4
  go_wp2_with fail
  refine (known_any w).mono ?_
  rintro e wk ⟨rfl, hbk⟩
  have HBK := Lib.hid hbk
  clear hbk
  go_wp2_with fail
  refine (both_any a len cap wk (HA.out.below HBK.out)).mono ?_
  rintro e w1 ⟨b, x, G, C, qs, os, rfl, hp⟩
  have HP := Lib.hid (hp.base HBK.out)
  clear hp HA
  go_wp2_with fail
  refine (roots_any HP.out.rh a2 len2 cap2 (HA2.out.below HP.out.hl.bel)).mono ?_
  rintro e w2 ⟨ro, rc, rs, rfl, hown, hrl, hrv, hb2⟩
  have HP2 := Lib.hid (HP.out.below hb2)
  have HRS := Lib.hid (own_isS hown)
  have HAP := Lib.hid (apart_own (b := b) (G := G) hown HP.out.hl.hp.1.lt (fun k hk => (HP.out.hl.hp.1.glt k hk).1))
  have HRV := Lib.hid hrv
  obtain ⟨n, hn⟩ : ∃ n, n = rs.length := ⟨_, rfl⟩
  rw [← hn] at HRS HAP hrl ⊢
  have HN := Lib.hid hn
  have F0 := Lib.hid (collect_yes HP2.out.hl.hp 0 (by omega) (.slice ro n rc) rs HRS.out HAP.out (by rw [← HN.out]; omega) HRV.out)
  clear hown hrv hb2 HP hn HA2
  go_wp2_with fail
  refine F0.out.mono ?_
  rintro e w3 hr
  obtain ⟨b3, g3, G3, rfl, ha3, hb3, -, -⟩ := HP2.out.hl.gc hr
  obtain ⟨h3, h2, hi3, n1, n2, -⟩ := ha3
  have hag := gc_again h2.hp.2.2.1 h2.hp.2.1 0 HRV.out h3.hp.2.2.1 h3.hp.2.1
  have hless := gcO_less h2.hp.2.2.1 h2.hp.2.1 0 HRV.out
  have hlv : ∀ r ∈ gcR os 0 rs, Vd (gcO os 0 rs) r := by
    intro r hr
    obtain ⟨p, hp, rfl⟩ := List.mem_map.1 hr
    exact ⟨_, gcO_ob h2.hp.2.2.1 h2.hp.2.1 0 HRV.out (allD_roots 0 p hp)⟩
  have hgl : (gcR os 0 rs).length = n := by unfold gcR; rw [List.length_map, ← HN.out]
  rw [← HN.out]
  obtain ⟨ox, hox⟩ : ∃ ox, ox = gcO os 0 rs := ⟨_, rfl⟩
  obtain ⟨rx, hrx⟩ : ∃ rx, rx = gcR os 0 rs := ⟨_, rfl⟩
  rw [← hox] at h3 hag hless hlv
  rw [← hrx] at hi3 hag hlv hgl
  have H3 := Lib.hid h3
  have H2 := Lib.hid h2
  have HI3 : Hid (IsS w3 (.slice (some ⟨g3, 0, none⟩) n n) rx) := by rw [← hgl]; exact hi3.len6
  have HAG := Lib.hid hag
  have F1 := Lib.hid (collect_yes h3.hp 0 (by omega) (.slice (some ⟨g3, 0, none⟩) n n) rx HI3.out (apart_lt rfl n1 n2) (by rw [hgl]; omega) hlv)
  have HRX := Lib.hid hgl
  clear hr h3 h2 hb3 HP2 HRS F0 hi3 n1 n2 hox hrx hag hlv hgl
  go_wp2_with fail
  refine F1.out.mono ?_
  rintro e w4 hr
  obtain ⟨b4, g4, G4, rfl, ha4, hb4, -, -⟩ := H3.out.gc hr
  obtain ⟨h4, h3, hi4, -⟩ := ha4
  rw [HAG.out.1] at h4
  rw [HAG.out.2] at hi4
  have H4 := Lib.hid h4
  have H34 := Lib.hid h3
  have H24 := Lib.hid (H2.out.below hb4)
  have HI34 := Lib.hid (HI3.out.below hb4)
  have HI4 : Hid (IsS w4 (.slice (some ⟨g4, 0, none⟩) n n) rx) := by rw [← HRX.out]; exact hi4.len6
  have F18 := Lib.hid (ints_eq HI4.out HI34.out (by rw [HRX.out]; omega))
  rw [HRX.out]
  clear hr h4 h3 hb4 hi4 H3 H2 HI3 F1
  have F4 : Hid (∀ W, Below w4.heap.size w4 W → Calls Try.prog 20 #[.pointer (some ⟨b4, 0, none⟩)] W fun e w' => e = .returned (.int .i64 (total ox : Nat)) ∧ W = w') := fun W hb => by
    have := used_any (H4.out.below hb).hp.1; rw [wds_length] at this; exact this
  have F3 : Hid (∀ W, Below w4.heap.size w4 W → Calls Try.prog 20 #[.pointer (some ⟨b3, 0, none⟩)] W fun e w' => e = .returned (.int .i64 (total ox : Nat)) ∧ W = w') := fun W hb => by
    have := used_any (H34.out.below hb).hp.1; rw [wds_length] at this; exact this
  have F2 : Hid (∀ W, Below w4.heap.size w4 W → Calls Try.prog 20 #[.pointer (some ⟨b, 0, none⟩)] W fun e w' => e = .returned (.int .i64 (total os : Nat)) ∧ W = w') := fun W hb => by
    have := used_any (H24.out.below hb).hp.1; rw [wds_length] at this; exact this
  have l1 := hless.2
  have htx : total ox ≤ 1000000 := by have := H4.out.hp.2.2.2.2; have := H4.out.hp.2.2.2.1; omega
  have hol := total_len ox
  have q1 : decide ((total ox : Int) < (total ox : Int)) = false := decide_eq_false (by omega)
  have q2 : decide ((total os : Int) < (total ox : Int)) = false := decide_eq_false (by omega)
  clear hless
  go_wp2_with fail
  refine F18.out.mono ?_
  rintro e w5 ⟨rfl, hb5⟩
  have B5 := Lib.hid hb5
  clear F18 hb5 HI4 HI34
  go_wp2_with fail
  refine (F4.out w5 B5.out).mono ?_
  rintro e w6 ⟨rfl, rfl⟩
  go_wp2_with fail
  refine (F3.out w5 B5.out).mono ?_
  rintro e w6 ⟨rfl, rfl⟩
  go_wp2_with fail
  refine (F3.out w5 B5.out).mono ?_
  rintro e w6 ⟨rfl, rfl⟩
  go_wp2_with fail
  refine (F2.out w5 B5.out).mono ?_
  rintro e w6 ⟨rfl, rfl⟩
  have H45 := Lib.hid (H4.out.below B5.out)
  have H35 := Lib.hid (H34.out.below B5.out)
  clear F4 F3 F2 H4 H34 H24 B5 q1 q2
  go_wp2_with fail
  refine (objects_o H35.out.hp).mono ?_
  rintro e w6 hr
  obtain ⟨oo, oc, rfl, hown, hb6⟩ := hr.form
  have HO6 := Lib.hid hown
  have H46 := Lib.hid (H45.out.below hb6)
  have H36 := Lib.hid (H35.out.below hb6)
  clear hr hown hb6 H45 H35
  go_wp2_with fail
  refine (objects_o H46.out.hp).mono ?_
  rintro e w7 hr
  obtain ⟨po, pc, rfl, hown, hb7⟩ := hr.form
  have HO7 := Lib.hid (own_below HO6.out hb7)
  have F18 := Lib.hid (ints_eq (own_isS hown) (own_isS HO7.out) (by rw [adrs_len]; omega))
  have H47 := Lib.hid (H46.out.below hb7)
  have H37 := Lib.hid (H36.out.below hb7)
  clear hr hown hb7 H46 H36 HO6
  go_wp2_with fail
  refine F18.out.mono ?_
  rintro e w8 ⟨rfl, hb8⟩
  have HO8 := Lib.hid (own_below HO7.out hb8)
  have H48 := Lib.hid (H47.out.below hb8)
  have H38 := Lib.hid (H37.out.below hb8)
  clear hb8 H47 H37 HO7 F18
  obtain ⟨N, hN⟩ : ∃ N, N = (adrs ox).length := ⟨_, rfl⟩
  rw [← hN] at HO8 ⊢
  have HNN := Lib.hid hN
  clear hN
  have hN9 : N ≤ 1000000 := by rw [HNN.out, adrs_len]; omega
  have HBS := Lib.hid (fun r hr => adrs_bd (os := ox) (by omega) r hr)
  have H0 : Hid (AgInv w8 N (.int .i64 0) w8) := ⟨0, Nat.zero_le _, rfl, Below.refl _ _⟩
  go_wp2_with fail
  go_loopw [14] (fun iv wr => AgInv w8 N iv wr) (fun iv _ => N - (intOf iv).toNat)
  case atStart => exact H0.out
  case round =>
    clear H0
    obtain ⟨j, hj, rfl, hbel⟩ := hrel
    have HB := Lib.hid hbel
    clear hbel
    by_cases hjn : j < N
    · have q1 : decide ((j : Int) < (N : Int)) = true := decide_eq_true (by omega)
      have hjl : j < (adrs ox).length := by rw [← HNN.out]; exact hjn
      have hl9 := own_below HO8.out HB.out
      obtain ⟨gl, cl, e1, hglo, hglt, -, hcl⟩ := own_at hl9 (by omega)
      injection e1 with e1 e2 e3
      subst e1
      clear e2 e3
      have c1 := hcl j hjl
      obtain ⟨r, hr⟩ : ∃ r, r = (adrs ox)[j] := ⟨_, rfl⟩
      have hrb := HBS.out (adrs ox)[j] (List.getElem_mem _)
      rw [← hr] at c1 hrb
      have HC : Hid (∀ W, Below wr.heap.size wr W → W.cell? ⟨gl, j, none⟩ = some (.int .i64 r)) := fun W hb => (hb.cell (p := ⟨gl, j, none⟩) hglt).trans c1
      have FT4 := Lib.hid (fun W (hb : Below wr.heap.size wr W) => tagm_any ((H48.out.below HB.out).below hb).hp r (by omega) (by omega))
      have FT3 := Lib.hid (fun W (hb : Below wr.heap.size wr W) => tagm_any ((H38.out.below HB.out).below hb).hp r (by omega) (by omega))
      have FP4 := Lib.hid (fun W (hb : Below wr.heap.size wr W) => ptrs_o ((H48.out.below HB.out).below hb).hp r (by omega) (by omega))
      have FP3 := Lib.hid (fun W (hb : Below wr.heap.size wr W) => ptrs_o ((H38.out.below HB.out).below hb).hp r (by omega) (by omega))
      have FN4 := Lib.hid (fun W (hb : Below wr.heap.size wr W) => nums_o ((H48.out.below HB.out).below hb).hp r (by omega) (by omega))
      have FN3 := Lib.hid (fun W (hb : Below wr.heap.size wr W) => nums_o ((H38.out.below HB.out).below hb).hp r (by omega) (by omega))
      have hpl : (ptrsOf ox r).length ≤ 1000000 := by
        rw [ptrsOf_len H48.out.hp.2.1]
        have := (hdo_low H48.out.hp.2.1 r).2.1
        omega
      have hnl : (numsOf ox r).length ≤ 1000000 := by
        rw [numsOf_len H48.out.hp.2.1]
        have := (hdo_low H48.out.hp.2.1 r).2.2.1
        omega
      have B0 : Hid (Below wr.heap.size wr wr) := Below.refl _ _
      generalize (hdo ox r).t = t at FT4 FT3
      generalize ptrsOf ox r = ps at FP4 FP3 hpl
      generalize numsOf ox r = ns at FN4 FN3 hnl
      have qt : ((t : Int) != (t : Int)) = false := by simp
      clear hl9 hcl hr hrb hjl hglo
      go_wp2_with fail
      have BX : Hid (Below wr.heap.size wr wr.drew) := (Below.refl _ _).drew
      refine wp_region_noPanic ?_
      refine wp_region_held_drew (S := fun W => W.cell? ⟨gl, j, none⟩ = some (.int .i64 r)) (by kernel_rfl) (HC.out _ BX.out) (fun hHeld => ?_)
      generalize wr.drew = X at BX hHeld ⊢
      clear B0 c1
      refine wpAnyH_take (i := 0) (v := ?v0) rfl (by kernel_rfl) (by kernel_rfl) (by kernel_rfl) (fun _ _ _ h => h) (Or.inl ⟨rfl, fun w' hw' => ?h0⟩) hHeld ?r0
      case h0 =>
        (go_simp; try omega)
        try with_reducible rfl
      simp only [List.getElem_toArray, List.getElem_cons_succ, List.getElem_cons_zero, Act.put, List.setIfInBounds_toArray, List.set_cons_zero, List.set_cons_succ]
      refine wpAnyH_take (i := 1) (v := ?v1) rfl (by kernel_rfl) (by kernel_rfl) (by kernel_rfl) (fun _ _ _ h => h) (Or.inl ⟨rfl, fun w' hw' => ?h1⟩) hHeld ?r1
      case h1 =>
        (go_simp; try omega)
        try with_reducible rfl
      simp only [List.getElem_toArray, List.getElem_cons_succ, List.getElem_cons_zero, Act.put, List.setIfInBounds_toArray, List.set_cons_zero, List.set_cons_succ]
      refine wpAnyH_take (i := 2) (v := ?v2) rfl (by kernel_rfl) (by kernel_rfl) (by kernel_rfl) (fun _ _ _ h => h) (Or.inl ⟨rfl, fun w' hw' => ?h2⟩) hHeld ?r2
      case h2 =>
        (go_simp; try omega)
        try with_reducible rfl
      simp only [List.getElem_toArray, List.getElem_cons_succ, List.getElem_cons_zero, Act.put, List.setIfInBounds_toArray, List.set_cons_zero, List.set_cons_succ]
      refine wpAnyH_take (i := 3) (v := Value.pointer (some ⟨gl, j, none⟩)) rfl (by kernel_rfl) (by kernel_rfl) (by kernel_rfl) (fun _ _ _ h => h) (Or.inl ⟨rfl, fun w' hw' => ?_⟩) hHeld ?_
      · (go_simp; try omega)
      simp only [List.getElem_toArray, List.getElem_cons_succ, List.getElem_cons_zero, Act.put, List.setIfInBounds_toArray, List.set_cons_zero, List.set_cons_succ]
      refine wpAnyH_take (i := 4) (v := ?v4) rfl (by kernel_rfl) (by kernel_rfl) (by kernel_rfl) (fun _ _ _ h => h) (Or.inl ⟨rfl, fun w' hw' => ?h4⟩) hHeld ?r4
      case h4 =>
        (obtain d0 := hw'; go_simp)
        try with_reducible rfl
      simp only [List.getElem_toArray, List.getElem_cons_succ, List.getElem_cons_zero, Act.put, List.setIfInBounds_toArray, List.set_cons_zero, List.set_cons_succ]
      refine wpAnyH_take (i := 6) (v := ?v5) rfl (by kernel_rfl) (by kernel_rfl) (by kernel_rfl) (fun _ _ _ h => h) (Or.inl ⟨rfl, fun w' hw' => ?h5⟩) hHeld ?r5
      case h5 =>
        (go_simp; try omega)
        try with_reducible rfl
      simp only [List.getElem_toArray, List.getElem_cons_succ, List.getElem_cons_zero, Act.put, List.setIfInBounds_toArray, List.set_cons_zero, List.set_cons_succ]
      refine wpAnyH_take (i := 7) (v := ?v6) rfl (by kernel_rfl) (by kernel_rfl) (by kernel_rfl) (fun _ _ _ h => h) (Or.inl ⟨rfl, fun w' hw' => ?h6⟩) hHeld ?r6
      case h6 =>
        (go_simp; try omega)
        try with_reducible rfl
      simp only [List.getElem_toArray, List.getElem_cons_succ, List.getElem_cons_zero, Act.put, List.setIfInBounds_toArray, List.set_cons_zero, List.set_cons_succ]
      refine wpAnyH_take (i := 8) (v := ?v7) rfl (by kernel_rfl) (by kernel_rfl) (by kernel_rfl) (fun _ _ _ h => h) (Or.inl ⟨rfl, fun w' hw' => ?h7⟩) hHeld ?r7
      case h7 =>
        (go_simp; try omega)
        try with_reducible rfl
      simp only [List.getElem_toArray, List.getElem_cons_succ, List.getElem_cons_zero, Act.put, List.setIfInBounds_toArray, List.set_cons_zero, List.set_cons_succ]
      refine wpAnyH_take (i := 9) (v := Value.pointer (some ⟨gl, j, none⟩)) rfl (by kernel_rfl) (by kernel_rfl) (by kernel_rfl) (fun _ _ _ h => h) (Or.inl ⟨rfl, fun w' hw' => ?_⟩) hHeld ?_
      · (go_simp; try omega)
      simp only [List.getElem_toArray, List.getElem_cons_succ, List.getElem_cons_zero, Act.put, List.setIfInBounds_toArray, List.set_cons_zero, List.set_cons_succ]
      refine wpAnyH_take (i := 10) (v := ?v9) rfl (by kernel_rfl) (by kernel_rfl) (by kernel_rfl) (fun _ _ _ h => h) (Or.inl ⟨rfl, fun w' hw' => ?h9⟩) hHeld ?r9
      case h9 =>
        (obtain d0 := hw'; go_simp)
        try with_reducible rfl
      simp only [List.getElem_toArray, List.getElem_cons_succ, List.getElem_cons_zero, Act.put, List.setIfInBounds_toArray, List.set_cons_zero, List.set_cons_succ]
      refine wpAnyH_ready (rs := [5]) (by kernel_rfl) (by simp) ?_
      refine (AllReadyH.cons rfl (fun K hK => ?_) AllReadyH.nil)
      go_simp
      refine (FT3.out X BX.out).mono ?_
      rintro e y1 ⟨rfl, hb⟩
      have B1 := Lib.hid (BX.out.trans (hb.mono BX.out.size))
      clear hb FT3
      refine hK.out _ _ (HC.out y1 B1.out) (fun hHeld => ?_)
      clear hK K
      try simp only [List.getElem_toArray, List.getElem_cons_succ, List.getElem_cons_zero, Act.put, List.setIfInBounds_toArray, List.set_cons_zero, List.set_cons_succ]
      refine wpAnyH_ready (rs := [11]) (by kernel_rfl) (by simp) ?_
      refine (AllReadyH.cons rfl (fun K hK => ?_) AllReadyH.nil)
      go_simp
      refine (FT4.out y1 B1.out).mono ?_
      rintro e y2 ⟨rfl, hb⟩
      have B2 := Lib.hid (B1.out.trans (hb.mono B1.out.size))
      clear hb FT4
      refine hK.out _ _ (HC.out y2 B2.out) (fun hHeld => ?_)
      clear hK K
      try simp only [List.getElem_toArray, List.getElem_cons_succ, List.getElem_cons_zero, Act.put, List.setIfInBounds_toArray, List.set_cons_zero, List.set_cons_succ]
      refine wpAnyH_take (i := 12) (v := ?v10) rfl (by kernel_rfl) (by kernel_rfl) (by kernel_rfl) (fun _ _ _ h => h) (Or.inl ⟨rfl, fun w' hw' => ?h10⟩) hHeld ?r10
      case h10 =>
        (go_simp; try omega)
        try with_reducible rfl
      simp only [List.getElem_toArray, List.getElem_cons_succ, List.getElem_cons_zero, Act.put, List.setIfInBounds_toArray, List.set_cons_zero, List.set_cons_succ]
      refine wpAnyH_take (i := 13) (v := Value.bool false) rfl (by kernel_rfl) (by kernel_rfl) (by kernel_rfl) (fun _ _ _ h => h) (Or.inl ⟨rfl, fun w' hw' => ?_⟩) hHeld ?_
      · (go_simp; try omega)
      simp only [List.getElem_toArray, List.getElem_cons_succ, List.getElem_cons_zero, Act.put, List.setIfInBounds_toArray, List.set_cons_zero, List.set_cons_succ]
      refine wpAnyH_take (i := 14) (v := ?v12) rfl (by kernel_rfl) (by kernel_rfl) (by kernel_rfl) (fun _ _ _ h => h) (Or.inl ⟨rfl, fun w' hw' => ?h12⟩) hHeld ?r12
      case h12 =>
        (go_simp; try omega)
        try with_reducible rfl
      simp only [List.getElem_toArray, List.getElem_cons_succ, List.getElem_cons_zero, Act.put, List.setIfInBounds_toArray, List.set_cons_zero, List.set_cons_succ]
      refine wpAnyH_take (i := 15) (v := ?v13) rfl (by kernel_rfl) (by kernel_rfl) (by kernel_rfl) (fun _ _ _ h => h) (Or.inl ⟨rfl, fun w' hw' => ?h13⟩) hHeld ?r13
      case h13 =>
        (go_simp; try omega)
        try with_reducible rfl
      simp only [List.getElem_toArray, List.getElem_cons_succ, List.getElem_cons_zero, Act.put, List.setIfInBounds_toArray, List.set_cons_zero, List.set_cons_succ]
      refine wpAnyH_take (i := 16) (v := ?v14) rfl (by kernel_rfl) (by kernel_rfl) (by kernel_rfl) (fun _ _ _ h => h) (Or.inl ⟨rfl, fun w' hw' => ?h14⟩) hHeld ?r14
      case h14 =>
        (go_simp; try omega)
        try with_reducible rfl
      simp only [List.getElem_toArray, List.getElem_cons_succ, List.getElem_cons_zero, Act.put, List.setIfInBounds_toArray, List.set_cons_zero, List.set_cons_succ]
      refine wpAnyH_take (i := 17) (v := Value.pointer (some ⟨gl, j, none⟩)) rfl (by kernel_rfl) (by kernel_rfl) (by kernel_rfl) (fun _ _ _ h => h) (Or.inl ⟨rfl, fun w' hw' => ?_⟩) hHeld ?_
      · (go_simp; try omega)
      simp only [List.getElem_toArray, List.getElem_cons_succ, List.getElem_cons_zero, Act.put, List.setIfInBounds_toArray, List.set_cons_zero, List.set_cons_succ]
      refine wpAnyH_take (i := 18) (v := ?v16) rfl (by kernel_rfl) (by kernel_rfl) (by kernel_rfl) (fun _ _ _ h => h) (Or.inl ⟨rfl, fun w' hw' => ?h16⟩) hHeld ?r16
      case h16 =>
        (obtain d0 := hw'; go_simp)
        try with_reducible rfl
      simp only [List.getElem_toArray, List.getElem_cons_succ, List.getElem_cons_zero, Act.put, List.setIfInBounds_toArray, List.set_cons_zero, List.set_cons_succ]
      refine wpAnyH_take (i := 20) (v := ?v17) rfl (by kernel_rfl) (by kernel_rfl) (by kernel_rfl) (fun _ _ _ h => h) (Or.inl ⟨rfl, fun w' hw' => ?h17⟩) hHeld ?r17
      case h17 =>
        (go_simp; try omega)
        try with_reducible rfl
      simp only [List.getElem_toArray, List.getElem_cons_succ, List.getElem_cons_zero, Act.put, List.setIfInBounds_toArray, List.set_cons_zero, List.set_cons_succ]
      refine wpAnyH_take (i := 21) (v := ?v18) rfl (by kernel_rfl) (by kernel_rfl) (by kernel_rfl) (fun _ _ _ h => h) (Or.inl ⟨rfl, fun w' hw' => ?h18⟩) hHeld ?r18
      case h18 =>
        (go_simp; try omega)
        try with_reducible rfl
      simp only [List.getElem_toArray, List.getElem_cons_succ, List.getElem_cons_zero, Act.put, List.setIfInBounds_toArray, List.set_cons_zero, List.set_cons_succ]
      refine wpAnyH_take (i := 22) (v := ?v19) rfl (by kernel_rfl) (by kernel_rfl) (by kernel_rfl) (fun _ _ _ h => h) (Or.inl ⟨rfl, fun w' hw' => ?h19⟩) hHeld ?r19
      case h19 =>
        (go_simp; try omega)
        try with_reducible rfl
      simp only [List.getElem_toArray, List.getElem_cons_succ, List.getElem_cons_zero, Act.put, List.setIfInBounds_toArray, List.set_cons_zero, List.set_cons_succ]
      refine wpAnyH_take (i := 23) (v := Value.pointer (some ⟨gl, j, none⟩)) rfl (by kernel_rfl) (by kernel_rfl) (by kernel_rfl) (fun _ _ _ h => h) (Or.inl ⟨rfl, fun w' hw' => ?_⟩) hHeld ?_
      · (go_simp; try omega)
      simp only [List.getElem_toArray, List.getElem_cons_succ, List.getElem_cons_zero, Act.put, List.setIfInBounds_toArray, List.set_cons_zero, List.set_cons_succ]
      refine wpAnyH_take (i := 24) (v := ?v21) rfl (by kernel_rfl) (by kernel_rfl) (by kernel_rfl) (fun _ _ _ h => h) (Or.inl ⟨rfl, fun w' hw' => ?h21⟩) hHeld ?r21
      case h21 =>
        (obtain d0 := hw'; go_simp)
        try with_reducible rfl
      simp only [List.getElem_toArray, List.getElem_cons_succ, List.getElem_cons_zero, Act.put, List.setIfInBounds_toArray, List.set_cons_zero, List.set_cons_succ]
      refine wpAnyH_ready (rs := [19]) (by kernel_rfl) (by simp) ?_
      refine (AllReadyH.cons rfl (fun K hK => ?_) AllReadyH.nil)
      go_simp
      refine (FP3.out y2 B2.out).mono ?_
      rintro e y3 hr3
      obtain ⟨s1, k1, rfl, hown3, hb⟩ := hr3.form
      have B3 := Lib.hid (B2.out.trans (hb.mono B2.out.size))
      have HS3 := Lib.hid (own_isS hown3)
      clear hb FP3 hr3 hown3
      refine hK.out _ _ (HC.out y3 B3.out) (fun hHeld => ?_)
      clear hK K
      try simp only [List.getElem_toArray, List.getElem_cons_succ, List.getElem_cons_zero, Act.put, List.setIfInBounds_toArray, List.set_cons_zero, List.set_cons_succ]
      refine wpAnyH_ready (rs := [25]) (by kernel_rfl) (by simp) ?_
      refine (AllReadyH.cons rfl (fun K hK => ?_) AllReadyH.nil)
      go_simp
      refine (FP4.out y3 B3.out).mono ?_
      rintro e y4 hr4
      obtain ⟨s2, k2, rfl, hown4, hb⟩ := hr4.form
      have B4 := Lib.hid (B3.out.trans (hb.mono B3.out.size))
      have F18 := Lib.hid (ints_eq (HS3.out.below hb) (own_isS hown4) hpl)
      clear hb FP4 hr4 hown4 HS3
      refine hK.out _ _ (HC.out y4 B4.out) (fun hHeld => ?_)
      clear hK K
      try simp only [List.getElem_toArray, List.getElem_cons_succ, List.getElem_cons_zero, Act.put, List.setIfInBounds_toArray, List.set_cons_zero, List.set_cons_succ]
      refine wpAnyH_ready (rs := [26]) (by kernel_rfl) (by simp) ?_
      refine (AllReadyH.cons rfl (fun K hK => ?_) AllReadyH.nil)
      go_simp
      refine F18.out.mono ?_
      rintro e y5 ⟨rfl, hb⟩
      have B5 := Lib.hid (B4.out.trans (hb.mono B4.out.size))
      clear hb F18
      refine hK.out _ _ (HC.out y5 B5.out) (fun hHeld => ?_)
      clear hK K
      try simp only [List.getElem_toArray, List.getElem_cons_succ, List.getElem_cons_zero, Act.put, List.setIfInBounds_toArray, List.set_cons_zero, List.set_cons_succ]
      refine wpAnyH_take (i := 27) (v := ?v22) rfl (by kernel_rfl) (by kernel_rfl) (by kernel_rfl) (fun _ _ _ h => h) (Or.inl ⟨rfl, fun w' hw' => ?h22⟩) hHeld ?r22
      case h22 =>
        (go_simp; try omega)
        try with_reducible rfl
      simp only [List.getElem_toArray, List.getElem_cons_succ, List.getElem_cons_zero, Act.put, List.setIfInBounds_toArray, List.set_cons_zero, List.set_cons_succ]
      refine wpAnyH_take (i := 28) (v := ?v23) rfl (by kernel_rfl) (by kernel_rfl) (by kernel_rfl) (fun _ _ _ h => h) (Or.inl ⟨rfl, fun w' hw' => ?h23⟩) hHeld ?r23
      case h23 =>
        (go_simp; try omega)
        try with_reducible rfl
      simp only [List.getElem_toArray, List.getElem_cons_succ, List.getElem_cons_zero, Act.put, List.setIfInBounds_toArray, List.set_cons_zero, List.set_cons_succ]
      refine wpAnyH_take (i := 29) (v := Value.bool false) rfl (by kernel_rfl) (by kernel_rfl) (by kernel_rfl) (fun _ _ _ h => h) (Or.inl ⟨rfl, fun w' hw' => ?_⟩) hHeld ?_
      · (go_simp; try omega)
      simp only [List.getElem_toArray, List.getElem_cons_succ, List.getElem_cons_zero, Act.put, List.setIfInBounds_toArray, List.set_cons_zero, List.set_cons_succ]
      refine wpAnyH_take (i := 30) (v := ?v25) rfl (by kernel_rfl) (by kernel_rfl) (by kernel_rfl) (fun _ _ _ h => h) (Or.inl ⟨rfl, fun w' hw' => ?h25⟩) hHeld ?r25
      case h25 =>
        (go_simp; try omega)
        try with_reducible rfl
      simp only [List.getElem_toArray, List.getElem_cons_succ, List.getElem_cons_zero, Act.put, List.setIfInBounds_toArray, List.set_cons_zero, List.set_cons_succ]
      refine wpAnyH_take (i := 31) (v := ?v26) rfl (by kernel_rfl) (by kernel_rfl) (by kernel_rfl) (fun _ _ _ h => h) (Or.inl ⟨rfl, fun w' hw' => ?h26⟩) hHeld ?r26
      case h26 =>
        (go_simp; try omega)
        try with_reducible rfl
      simp only [List.getElem_toArray, List.getElem_cons_succ, List.getElem_cons_zero, Act.put, List.setIfInBounds_toArray, List.set_cons_zero, List.set_cons_succ]
      refine wpAnyH_take (i := 32) (v := ?v27) rfl (by kernel_rfl) (by kernel_rfl) (by kernel_rfl) (fun _ _ _ h => h) (Or.inl ⟨rfl, fun w' hw' => ?h27⟩) hHeld ?r27
      case h27 =>
        (go_simp; try omega)
        try with_reducible rfl
      simp only [List.getElem_toArray, List.getElem_cons_succ, List.getElem_cons_zero, Act.put, List.setIfInBounds_toArray, List.set_cons_zero, List.set_cons_succ]
      refine wpAnyH_take (i := 33) (v := Value.pointer (some ⟨gl, j, none⟩)) rfl (by kernel_rfl) (by kernel_rfl) (by kernel_rfl) (fun _ _ _ h => h) (Or.inl ⟨rfl, fun w' hw' => ?_⟩) hHeld ?_
      · (go_simp; try omega)
      simp only [List.getElem_toArray, List.getElem_cons_succ, List.getElem_cons_zero, Act.put, List.setIfInBounds_toArray, List.set_cons_zero, List.set_cons_succ]
      refine wpAnyH_take (i := 34) (v := ?v29) rfl (by kernel_rfl) (by kernel_rfl) (by kernel_rfl) (fun _ _ _ h => h) (Or.inl ⟨rfl, fun w' hw' => ?h29⟩) hHeld ?r29
      case h29 =>
        (obtain d0 := hw'; go_simp)
        try with_reducible rfl
      simp only [List.getElem_toArray, List.getElem_cons_succ, List.getElem_cons_zero, Act.put, List.setIfInBounds_toArray, List.set_cons_zero, List.set_cons_succ]
      refine wpAnyH_take (i := 36) (v := ?v30) rfl (by kernel_rfl) (by kernel_rfl) (by kernel_rfl) (fun _ _ _ h => h) (Or.inl ⟨rfl, fun w' hw' => ?h30⟩) hHeld ?r30
      case h30 =>
        (go_simp; try omega)
        try with_reducible rfl
      simp only [List.getElem_toArray, List.getElem_cons_succ, List.getElem_cons_zero, Act.put, List.setIfInBounds_toArray, List.set_cons_zero, List.set_cons_succ]
      refine wpAnyH_take (i := 37) (v := ?v31) rfl (by kernel_rfl) (by kernel_rfl) (by kernel_rfl) (fun _ _ _ h => h) (Or.inl ⟨rfl, fun w' hw' => ?h31⟩) hHeld ?r31
      case h31 =>
        (go_simp; try omega)
        try with_reducible rfl
      simp only [List.getElem_toArray, List.getElem_cons_succ, List.getElem_cons_zero, Act.put, List.setIfInBounds_toArray, List.set_cons_zero, List.set_cons_succ]
      refine wpAnyH_take (i := 38) (v := ?v32) rfl (by kernel_rfl) (by kernel_rfl) (by kernel_rfl) (fun _ _ _ h => h) (Or.inl ⟨rfl, fun w' hw' => ?h32⟩) hHeld ?r32
      case h32 =>
        (go_simp; try omega)
        try with_reducible rfl
      simp only [List.getElem_toArray, List.getElem_cons_succ, List.getElem_cons_zero, Act.put, List.setIfInBounds_toArray, List.set_cons_zero, List.set_cons_succ]
      refine wpAnyH_take (i := 39) (v := Value.pointer (some ⟨gl, j, none⟩)) rfl (by kernel_rfl) (by kernel_rfl) (by kernel_rfl) (fun _ _ _ h => h) (Or.inl ⟨rfl, fun w' hw' => ?_⟩) hHeld ?_
      · (go_simp; try omega)
      simp only [List.getElem_toArray, List.getElem_cons_succ, List.getElem_cons_zero, Act.put, List.setIfInBounds_toArray, List.set_cons_zero, List.set_cons_succ]
      refine wpAnyH_take (i := 40) (v := ?v34) rfl (by kernel_rfl) (by kernel_rfl) (by kernel_rfl) (fun _ _ _ h => h) (Or.inl ⟨rfl, fun w' hw' => ?h34⟩) hHeld ?r34
      case h34 =>
        (obtain d0 := hw'; go_simp)
        try with_reducible rfl
      simp only [List.getElem_toArray, List.getElem_cons_succ, List.getElem_cons_zero, Act.put, List.setIfInBounds_toArray, List.set_cons_zero, List.set_cons_succ]
      refine wpAnyH_ready (rs := [35]) (by kernel_rfl) (by simp) ?_
      refine (AllReadyH.cons rfl (fun K hK => ?_) AllReadyH.nil)
      go_simp
      refine (FN3.out y5 B5.out).mono ?_
      rintro e y6 hr6
      obtain ⟨s3, k3, rfl, hown6, hb⟩ := hr6.form
      have B6 := Lib.hid (B5.out.trans (hb.mono B5.out.size))
      have HS6 := Lib.hid (own_isS hown6)
      clear hb FN3 hr6 hown6
      refine hK.out _ _ (HC.out y6 B6.out) (fun hHeld => ?_)
      clear hK K
      try simp only [List.getElem_toArray, List.getElem_cons_succ, List.getElem_cons_zero, Act.put, List.setIfInBounds_toArray, List.set_cons_zero, List.set_cons_succ]
      refine wpAnyH_ready (rs := [41]) (by kernel_rfl) (by simp) ?_
      refine (AllReadyH.cons rfl (fun K hK => ?_) AllReadyH.nil)
      go_simp
      refine (FN4.out y6 B6.out).mono ?_
      rintro e y7 hr7
      obtain ⟨s4, k4, rfl, hown7, hb⟩ := hr7.form
      have B7 := Lib.hid (B6.out.trans (hb.mono B6.out.size))
      have F18 := Lib.hid (ints_eq (HS6.out.below hb) (own_isS hown7) hnl)
      clear hb FN4 hr7 hown7 HS6
      refine hK.out _ _ (HC.out y7 B7.out) (fun hHeld => ?_)
      clear hK K
      try simp only [List.getElem_toArray, List.getElem_cons_succ, List.getElem_cons_zero, Act.put, List.setIfInBounds_toArray, List.set_cons_zero, List.set_cons_succ]
      refine wpAnyH_ready (rs := [42]) (by kernel_rfl) (by simp) ?_
      refine (AllReadyH.cons rfl (fun K hK => ?_) AllReadyH.nil)
      go_simp
      refine F18.out.mono ?_
      rintro e y8 ⟨rfl, hb⟩
      have B8 := Lib.hid (B7.out.trans (hb.mono B7.out.size))
      have HREL : Hid (AgInv w8 N (.int .i64 ((j : Int) + 1)) y8) := ⟨j + 1, hjn, by go_num, HB.out.trans (B8.out.mono HB.out.size)⟩
      clear hb F18
      refine hK.out _ _ (HC.out y8 B8.out) (fun hHeld => ?_)
      clear hK K
      try simp only [List.getElem_toArray, List.getElem_cons_succ, List.getElem_cons_zero, Act.put, List.setIfInBounds_toArray, List.set_cons_zero, List.set_cons_succ]
      refine wpAnyH_take (i := 43) (v := ?v35) rfl (by kernel_rfl) (by kernel_rfl) (by kernel_rfl) (fun _ _ _ h => h) (Or.inl ⟨rfl, fun w' hw' => ?h35⟩) hHeld ?r35
      case h35 =>
        (go_simp; try omega)
        try with_reducible rfl
      simp only [List.getElem_toArray, List.getElem_cons_succ, List.getElem_cons_zero, Act.put, List.setIfInBounds_toArray, List.set_cons_zero, List.set_cons_succ]
      refine wpAnyH_take (i := 44) (v := ?v36) rfl (by kernel_rfl) (by kernel_rfl) (by kernel_rfl) (fun _ _ _ h => h) (Or.inl ⟨rfl, fun w' hw' => ?h36⟩) hHeld ?r36
      case h36 =>
        (go_simp; try omega)
        try with_reducible rfl
      simp only [List.getElem_toArray, List.getElem_cons_succ, List.getElem_cons_zero, Act.put, List.setIfInBounds_toArray, List.set_cons_zero, List.set_cons_succ]
      refine wpAnyH_done (by kernel_rfl) ?_ _
      refine NoPanic.normal ?_
      clear hHeld
      go_wp2_with fail
      go_roundw
      case rel => exact HREL.out
      case measure => simp [intOf]; omega
    · have q1 : decide ((j : Int) < (N : Int)) = false := decide_eq_false (by omega)
      have HF := Lib.hid (H48.out.bel.trans (HB.out.mono H48.out.bel.size))
      clear HO8
      go_wp2_with fail
      go_ret
      exact ⟨rfl, HF.out⟩
end Go.Proofs.Ytjecjlnkpbbanaa
