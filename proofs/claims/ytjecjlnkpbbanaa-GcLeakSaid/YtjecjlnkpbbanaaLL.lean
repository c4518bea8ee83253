/- GcLeak, walked. -/
import Derived.Test.YtjecjlnkpbbanaaL21
import Derived.Test.YtjecjlnkpbbanaaL22
import Derived.Test.YtjecjlnkpbbanaaG9
namespace Go.Proofs.Ytjecjlnkpbbanaa
open Go Go.RowKit
set_option linter.unusedVariables false
set_option linter.unusedSimpArgs false
def LlI (B : World) (e k : Nat) (hv sv iv : Value) (wr : World) : Prop :=
  ∃ (i b : Nat) (G : Option Nat) (os : List Ob) (a : Int), i ≤ k ∧ hv = .pointer (some ⟨b, 0, none⟩) ∧ sv = .int .i64 a ∧ iv = .int .i64 (i : Int) ∧ HL B wr b G os 3000 ∧ LkS e i os a
set_option maxHeartbeats 16000000 in
set_option maxRecDepth 100000 in
theorem leak_walk (n v : Int) (w : World) (hn : I64 n) (hd : I64 v) :
    Calls Try.prog 8 #[.int .i64 n, .int .i64 v] w (RetV (.bool true) w) := by
  go_enter Try.func8, Try.ntmps8
  go_wp2_with fail
  refine (known_any w).mono ?_
  rintro e wk ⟨rfl, hbk⟩
  have HBK := Lib.hid hbk
  clear hbk
  go_wp2_with fail
  refine (new_any (3000 : Nat) (by omega) (by omega) wk).mono ?_
  rintro e w1 ⟨rfl, hw1⟩
  have e1 : w1 = wk.alloc (.cells #[.slice none 0 0, .int .i64 ((3000 : Nat) : Int)] 75) := hw1
  have H1 := Lib.hid (HL.new HBK.out 3000 (by omega))
  rw [← e1] at H1
  clear hw1 e1
  obtain ⟨b, hb⟩ : ∃ b, b = wk.heap.size := ⟨_, rfl⟩
  rw [← hb] at H1 ⊢
  clear hb HBK
  obtain ⟨k9, hk9, -, F⟩ := within_at14 n 300 hn (by omega) (by omega) w1
  have FW := Lib.hid F
  obtain ⟨e1, he1, -, F2⟩ := within_at14 v 20 hd (by omega) (by omega) w1
  have FW2 := Lib.hid F2
  clear F F2 hn hd
  obtain ⟨k, hk⟩ : ∃ k, k = 1 + k9 := ⟨_, rfl⟩
  have hkk : (1 : Int) + (k9 : Int) = (k : Int) := by omega
  have hk2 : k ≤ 300 := by omega
  obtain ⟨ee, hee⟩ : ∃ ee, ee = e1 + 1 := ⟨_, rfl⟩
  have hek : (1 : Int) + (e1 : Int) = (ee : Int) := by omega
  have hes : (ee : Int) - 1 = (e1 : Int) := by omega
  have hee2 : ee ≤ 20 := by omega
  have HEE := Lib.hid hee
  clear hk hee
  go_wp2_with fail
  refine FW.out.mono ?_
  rintro e w2 ⟨rfl, rfl⟩
  go_wp2_with fail
  refine FW2.out.mono ?_
  rintro e w2 ⟨rfl, rfl⟩
  clear FW FW2 hk9
  have F28 : Hid (Calls Try.prog 28 #[.pointer (some ⟨b, 0, none⟩), .int .i64 7, .slice none 0 0, .slice none 0 0] w1 fun e w' => e = .returned (.tuple #[.int .i64 0, .bool true]) ∧ ∃ G', HL w w' b G' [atO] 3000) :=
    (H1.out.alloc 7 [] [] (.slice none 0 0) (.slice none 0 0) (nil_isS _) (nil_isS _) (apart_nil _ _) (apart_nil _ _) (by simp) (by decide) (by decide)).mono (by rintro e w' ⟨rfl, G, h, -⟩; exact ⟨rfl, G, h⟩)
  go_wp2_with fail
  refine F28.out.mono ?_
  rintro e w3 ⟨rfl, G3, h3⟩
  have H3 := Lib.hid h3
  clear F28 h3 H1
  have H4 := Lib.hid (H3.out.drops (.cells #[.int .i64 0, .int .i64 0] 3))
  have F29 : Hid (Calls Try.prog 28 #[.pointer (some ⟨b, 0, none⟩), .int .i64 2, .slice (some ⟨w3.heap.size, 0, none⟩) 2 2, .slice none 0 0] (w3.alloc (.cells #[.int .i64 0, .int .i64 0] 3)) fun e w' => e = .returned (.tuple #[.int .i64 2, .bool true]) ∧ ∃ G', HL w w' b G' [atO, newO 2 [0, 0] []] 3000) :=
    (H4.out.alloc 2 [0, 0] [] (.slice (some ⟨w3.heap.size, 0, none⟩) 2 2) (.slice none 0 0) (two_isS w3 0 0) (nil_isS _) (H3.out.apart2 (Nat.le_refl _)) (apart_nil _ _) (fun p hp => by simp at hp; rw [hp]; exact vd_ok (os := [atO]) ⟨atO, by kernel_rfl⟩ (m := 3000) (by decide) (by omega)) (by decide) (by decide)).mono (by rintro e w' ⟨rfl, G, h, -⟩; exact ⟨rfl, G, h⟩)
  go_wp2_with fail
  refine F29.out.mono ?_
  rintro e w5 ⟨rfl, G5, h5⟩
  have H5 := Lib.hid h5
  clear F29 h5 H3 H4
  have h6 := H5.out.drops (.cells #[.int .i64 2] 3)
  have hi6 := one_isS w5 2
  have ha6 : Apart (.slice (some ⟨w5.heap.size, 0, none⟩) 1 1) b G5 := H5.out.apart2 (Nat.le_refl _)
  have ha7 : Apart (.slice (some ⟨(w5.alloc (.cells #[.int .i64 2] 3)).heap.size, 0, none⟩) 1 1) b G5 := h6.apart2 (Nat.le_refl _)
  have hi7 := one_isS (w5.alloc (.cells #[.int .i64 2] 3)) 1
  have h7 := h6.drops (.cells #[.int .i64 1] 3)
  have hi6' := hi6.below ((Below.refl _ _).alloc (Nat.le_refl _) (.cells #[.int .i64 1] 3))
  have F30 := Lib.hid ((h7.alloc 6 [2] [1] _ _ hi6' hi7 ha6 ha7 (fun p hp => by simp at hp; rw [hp]; exact vd_ok (os := [atO, newO 2 [0, 0] []]) ⟨newO 2 [0, 0] [], by kernel_rfl⟩ (m := 3000) (by decide) (by omega)) (by decide) (by decide)).mono (R' := fun e w' => e = .returned (.tuple #[.int .i64 5, .bool true]) ∧ ∃ G', HL w w' b G' [atO, newO 2 [0, 0] [], newO 6 [2] [1]] 3000) (by rintro e w' ⟨rfl, G, h, -⟩; exact ⟨rfl, G, h⟩))
  have z1 : (w5.alloc (.cells #[.int .i64 2] 3)).heap.size = w5.heap.size + 1 := by simp
  rw [z1] at F30
  clear h6 hi6 ha6 ha7 hi7 h7 hi6' z1
  go_wp2_with fail
  refine F30.out.mono ?_
  rintro e w6 ⟨rfl, G6, h6⟩
  have H0 : Hid (LlI w e1 k (.pointer (some ⟨b, 0, none⟩)) (.int .i64 5) (.int .i64 0) w6) := ⟨0, b, G6, _, 5, Nat.zero_le _, rfl, rfl, rfl, h6, LkS.start e1⟩
  clear F30 h6 H5
  go_wp2_with fail
  go_loopw [5, 12, 14] (fun hv sv iv wr => LlI w e1 k hv sv iv wr) (fun _ _ iv _ => k - (intOf iv).toNat)
  case atStart => exact H0.out
  case round =>
    clear H0
    obtain ⟨i, b, G, os, a, hi, rfl, rfl, rfl, hl, hst⟩ := hrel
    have HL9 := Lib.hid hl
    have HST := Lib.hid hst
    clear hl hst
    by_cases hik : i < k
    · have q1 : decide ((i : Int) < (k : Int)) = true := decide_eq_true (by omega)
      have htot := HST.out.2.1
      have hxv := vd_ok HST.out.1 (show total os ≤ 3000 by omega) (by omega)
      have hfit2 : fitF (2 : Nat) [a, a] [] = true := rfl
      have H2 := Lib.hid (HL9.out.drops (.cells #[.int .i64 a, .int .i64 a] 3))
      have F28 := Lib.hid (H2.out.alloc 2 [a, a] [] (.slice (some ⟨wr.heap.size, 0, none⟩) 2 2) (.slice none 0 0) (two_isS wr a a) (nil_isS _) (HL9.out.apart2 (Nat.le_refl _)) (apart_nil _ _) (fun p hp => by simp at hp; rw [hp]; exact hxv) hfit2 (by show total os + 3 ≤ 3000; omega))
      clear hxv hfit2
      go_wp2_with fail
      refine F28.out.mono ?_
      rintro e w4 ⟨rfl, G4, h4, -⟩
      have H4 := Lib.hid h4
      clear F28 H2 h4 HL9
      obtain ⟨u, hu⟩ : ∃ u : Nat, u = i % 2 := ⟨_, rfl⟩
      have hu2 : u < 2 := by omega
      have hr1 : (i : Int).tmod 2 = (u : Int) := by rw [Int.tmod_eq_emod_of_nonneg (by omega)]; omega
      have hr2 : (i : Int) % 2 = (u : Int) := by omega
      have hr3 : IntKind.i64.wrap ((i : Int).tmod 2) = (u : Int) := by rw [hr1, IntKind.wrap_i64]; omega
      have hr4 : IntKind.i64.wrap ((i : Int) % 2) = (u : Int) := by rw [hr2, IntKind.wrap_i64]; omega
      have HW : Hid ((u : Int) = 0 ∨ (u : Int) = 1) := by show _ ∨ _; omega
      have hfit6 : fitF (6 : Nat) [((total os : Nat) : Int)] [(u : Int)] = true := by rcases HW.out with e | e <;> rw [e] <;> rfl
      have HSS := Lib.hid (HST.out.step HW.out)
      obtain ⟨r, hr⟩ : ∃ r : Nat, r = i % (e1 + 1) := ⟨_, rfl⟩
      have hre := Nat.mod_lt i (show 0 < e1 + 1 by omega)
      rw [← hr] at hre
      have HRR := Lib.hid hr
      have hr5 : (i : Int).tmod (ee : Int) = (r : Int) := by rw [Int.tmod_eq_emod_of_nonneg (by omega), HEE.out, hr]; omega
      have hr6 : (i : Int) % (ee : Int) = (r : Int) := by rw [← hr5, Int.tmod_eq_emod_of_nonneg (by omega)]
      have hr7 : IntKind.i64.wrap ((i : Int).tmod (ee : Int)) = (r : Int) := by rw [hr5, IntKind.wrap_i64]; omega
      have hr8 : IntKind.i64.wrap ((i : Int) % (ee : Int)) = (r : Int) := by rw [hr6, IntKind.wrap_i64]; omega
      have hee0 : ((ee : Int) == 0) = false := by
        have := HEE.out
        have : ¬ (ee : Int) = 0 := by omega
        simpa using this
      clear hu hr
      have h5 := H4.out.drops (.cells #[.int .i64 (total os : Nat)] 3)
      have hi5 := one_isS w4 (total os : Nat)
      have ha5 : Apart (.slice (some ⟨w4.heap.size, 0, none⟩) 1 1) b G4 := H4.out.apart2 (Nat.le_refl _)
      have ha6 : Apart (.slice (some ⟨(w4.alloc (.cells #[.int .i64 (total os : Nat)] 3)).heap.size, 0, none⟩) 1 1) b G4 := h5.apart2 (Nat.le_refl _)
      have hi6 := one_isS (w4.alloc (.cells #[.int .i64 (total os : Nat)] 3)) (u : Int)
      have h6 := h5.drops (.cells #[.int .i64 (u : Int)] 3)
      have hi5' := hi5.below ((Below.refl _ _).alloc (Nat.le_refl _) (.cells #[.int .i64 (u : Int)] 3))
      have htt : total (os ++ [newO 2 [a, a] []]) = total os + 3 := by rw [total_append]; rfl
      have hvv : Vd (os ++ [newO 2 [a, a] []]) (total os : Nat) := ⟨_, ob_last _ _⟩
      have F28 := Lib.hid (h6.alloc 6 [(total os : Nat)] [(u : Int)] _ _ hi5' hi6 ha5 ha6 (fun p hp => by rw [List.mem_singleton.1 hp]; exact vd_ok hvv (show total (os ++ [newO 2 [a, a] []]) ≤ 3000 by omega) (by omega)) (hfit6) (by show total (os ++ [newO 2 [a, a] []]) + 3 ≤ 3000; omega))
      have z1 : (w4.alloc (.cells #[.int .i64 (total os : Nat)] 3)).heap.size = w4.heap.size + 1 := by simp
      rw [z1] at F28
      obtain ⟨y, hy⟩ : ∃ y : Nat, y = total (os ++ [newO 2 [a, a] []]) := ⟨_, rfl⟩
      rw [← hy] at F28 HSS
      obtain ⟨ox, hox⟩ : ∃ ox, ox = (os ++ [newO 2 [a, a] []]) ++ [newO 6 [((total os : Nat) : Int)] [(u : Int)]] := ⟨_, rfl⟩
      rw [← hox] at F28 HSS
      clear h5 hi5 ha5 ha6 hi6 h6 hi5' htt hvv z1 hfit6 hy hox HST
      go_wp2_with fail
      refine F28.out.mono ?_
      rintro e w5 ⟨rfl, G5, h5, -⟩
      have H5 := Lib.hid h5
      clear F28 h5 H4 htot
      by_cases hcl : r = e1
      · have qe : ((r : Int) == (e1 : Int)) = true := by rw [hcl]; simp
        have HOK := Lib.hid H5.out.hp.2.1
        have HCL := Lib.hid H5.out.hp.2.2.1
        have HG := Lib.hid (LkS.gc HCL.out HOK.out HSS.out.1 HSS.out.2.1 HSS.out.2.2)
        have H2 := Lib.hid (H5.out.drops (.cells #[.int .i64 (y : Int)] 3))
        have F16 := Lib.hid (collect_yes H2.out.hp 20 (by omega) (.slice (some ⟨w5.heap.size, 0, none⟩) 1 1) [(y : Int)] (one_isS w5 y) (H5.out.apart2 (Nat.le_refl _)) (by simp) (fun r hr => by rw [List.mem_singleton.1 hr]; exact HSS.out.1))
        clear H5
        go_wp2_with fail
        refine F16.out.mono ?_
        rintro e w7 hr
        obtain ⟨b4, g4, G7, rfl, ha4, hb4, -, -⟩ := H2.out.gc hr
        obtain ⟨h4, -, hi4, -⟩ := ha4
        obtain ⟨z, hz⟩ : ∃ z, z = ph ox 20 [(y : Int)] (shortO ox 20 (y : Int)) := ⟨_, rfl⟩
        have hyr : gcR ox 20 [(y : Int)] = [z] := by rw [hz]; rfl
        rw [hyr] at hi4
        rw [← hz] at HG
        obtain ⟨og, hog⟩ : ∃ og, og = gcO ox 20 [(y : Int)] := ⟨_, rfl⟩
        rw [← hog] at HG h4
        obtain ⟨U, hU⟩ : ∃ U, U = total og := ⟨_, rfl⟩
        have F20 : Hid (Calls Try.prog 20 #[.pointer (some ⟨b4, 0, none⟩)] w7 fun e w' => e = .returned (.int .i64 (U : Nat)) ∧ w7 = w') := by
          have := used_any h4.hp.1; rw [wds_length, ← hU] at this; exact this
        have hUt : ee ≤ 18 → U = 2 := fun h => by rw [hU]; exact HG.out.2 (by have := HEE.out; omega)
        have c4 := hi4.cell? (j := 0) (v := z) rfl
        have HREL : Hid (LlI w e1 k (.pointer (some ⟨b4, 0, none⟩)) (.int .i64 z) (.int .i64 ((i : Int) + 1)) w7) := ⟨i + 1, b4, G7, og, z, hik, rfl, rfl, by go_num, h4, HG.out.1⟩
        clear hr hb4 h4 hi4 hz hyr hog hU F16 H2 HG HSS HOK HCL
        simp only [List.length_cons, List.length_nil]
        obtain ⟨e6, he6⟩ : ∃ e6 : Nat, e6 = 6 * ee := ⟨_, rfl⟩
        have h6e : (6 : Int) * (ee : Int) = (e6 : Int) := by omega
        obtain ⟨e8, he8⟩ : ∃ e8 : Nat, e8 = 2 + e6 := ⟨_, rfl⟩
        have h8e : (2 : Int) + (e6 : Int) = (e8 : Int) := by omega
        obtain ⟨e14, he14⟩ : ∃ e14 : Nat, e14 = e8 + 6 := ⟨_, rfl⟩
        have h14e : (e8 : Int) + 6 = (e14 : Int) := by omega
        have b6 : e6 ≤ 120 := by omega
        have b8 : e8 ≤ 122 := by omega
        have b14 : e14 ≤ 128 := by omega
        have b15 : 8 ≤ e14 := by omega
        clear he6 he8 he14
        by_cases hb : (e14 : Int) < (U : Int)
        · have q2 : decide ((e14 : Int) < (U : Int)) = true := decide_eq_true hb
          have q3 : decide ((ee : Int) ≤ 18) = false := decide_eq_false (by intro h; have := hUt (by omega); omega)
          clear hUt
          go_wp2_with fail
          refine F20.out.mono ?_
          rintro e w8 ⟨rfl, rfl⟩
          clear F20
          go_wp2_with fail
          have cX : w7.drew.cell? ⟨g4, 0, none⟩ = some (.int .i64 z) := c4
          refine wp_region_noPanic ?_
          refine wp_region_held_drew (S := fun W => W.cell? ⟨g4, 0, none⟩ = some (.int .i64 z)) (by kernel_rfl) cX (fun hHeld => ?_)
          have HRELX : Hid (LlI w e1 k (.pointer (some ⟨b4, 0, none⟩)) (.int .i64 z) (.int .i64 ((i : Int) + 1)) w7.drew) := by
            obtain ⟨i', b', G', os', a', y1, y2, y3, y4, y5, y6⟩ := HREL.out
            exact ⟨i', b', G', os', a', y1, y2, y3, y4, y5.below (Below.refl w7.heap.size w7).drew, y6⟩
          generalize w7.drew = X at cX hHeld HRELX ⊢
          clear HREL c4
          refine wpAnyH_take (i := 0) (v := ?v0) rfl (by kernel_rfl) (by kernel_rfl) (by kernel_rfl) (fun _ _ _ h => h) (Or.inl ⟨rfl, fun w' hw' => ?h0⟩) hHeld ?r0
          case h0 =>
            (go_simp; try omega)
            try with_reducible rfl
          simp only [List.getElem_toArray, List.getElem_cons_succ, List.getElem_cons_zero, Act.put, List.setIfInBounds_toArray, List.set_cons_zero, List.set_cons_succ]
          refine wpAnyH_take (i := 1) (v := ?v1) rfl (by kernel_rfl) (by kernel_rfl) (by kernel_rfl) (fun _ _ _ h => h) (Or.inl ⟨rfl, fun w' hw' => ?h1⟩) hHeld ?r1
          case h1 =>
            (go_simp; try omega)
            try with_reducible rfl
          simp only [List.getElem_toArray, List.getElem_cons_succ, List.getElem_cons_zero, Act.put, List.setIfInBounds_toArray, List.set_cons_zero, List.set_cons_succ]
          refine wpAnyH_take (i := 2) (v := Value.pointer (some ⟨g4, 0, none⟩)) rfl (by kernel_rfl) (by kernel_rfl) (by kernel_rfl) (fun _ _ _ h => h) (Or.inl ⟨rfl, fun w' hw' => ?_⟩) hHeld ?_
          · (go_simp; try omega)
          simp only [List.getElem_toArray, List.getElem_cons_succ, List.getElem_cons_zero, Act.put, List.setIfInBounds_toArray, List.set_cons_zero, List.set_cons_succ]
          refine wpAnyH_take (i := 3) (v := ?v3) rfl (by kernel_rfl) (by kernel_rfl) (by kernel_rfl) (fun _ _ _ h => h) (Or.inl ⟨rfl, fun w' hw' => ?h3⟩) hHeld ?r3
          case h3 =>
            (obtain d0 := hw'; go_simp)
            try with_reducible rfl
          simp only [List.getElem_toArray, List.getElem_cons_succ, List.getElem_cons_zero, Act.put, List.setIfInBounds_toArray, List.set_cons_zero, List.set_cons_succ]
          refine wpAnyH_take (i := 4) (v := ?v4) rfl (by kernel_rfl) (by kernel_rfl) (by kernel_rfl) (fun _ _ _ h => h) (Or.inl ⟨rfl, fun w' hw' => ?h4⟩) hHeld ?r4
          case h4 =>
            (go_simp; try omega)
            try with_reducible rfl
          simp only [List.getElem_toArray, List.getElem_cons_succ, List.getElem_cons_zero, Act.put, List.setIfInBounds_toArray, List.set_cons_zero, List.set_cons_succ]
          refine wpAnyH_take (i := 5) (v := ?v5) rfl (by kernel_rfl) (by kernel_rfl) (by kernel_rfl) (fun _ _ _ h => h) (Or.inl ⟨rfl, fun w' hw' => ?h5⟩) hHeld ?r5
          case h5 =>
            (go_simp; try omega)
            try with_reducible rfl
          simp only [List.getElem_toArray, List.getElem_cons_succ, List.getElem_cons_zero, Act.put, List.setIfInBounds_toArray, List.set_cons_zero, List.set_cons_succ]
          refine wpAnyH_done (by kernel_rfl) ?_ _
          refine NoPanic.normal ?_
          clear hHeld
          go_wp2_with fail
          go_roundw
          case rel => exact HRELX.out
          case measure => simp [intOf]; omega
        · have q2 : decide ((e14 : Int) < (U : Int)) = false := decide_eq_false hb
          clear hUt
          go_wp2_with fail
          refine F20.out.mono ?_
          rintro e w8 ⟨rfl, rfl⟩
          clear F20
          go_wp2_with fail
          have cX : w7.drew.cell? ⟨g4, 0, none⟩ = some (.int .i64 z) := c4
          refine wp_region_noPanic ?_
          refine wp_region_held_drew (S := fun W => W.cell? ⟨g4, 0, none⟩ = some (.int .i64 z)) (by kernel_rfl) cX (fun hHeld => ?_)
          have HRELX : Hid (LlI w e1 k (.pointer (some ⟨b4, 0, none⟩)) (.int .i64 z) (.int .i64 ((i : Int) + 1)) w7.drew) := by
            obtain ⟨i', b', G', os', a', y1, y2, y3, y4, y5, y6⟩ := HREL.out
            exact ⟨i', b', G', os', a', y1, y2, y3, y4, y5.below (Below.refl w7.heap.size w7).drew, y6⟩
          generalize w7.drew = X at cX hHeld HRELX ⊢
          clear HREL c4
          refine wpAnyH_take (i := 0) (v := ?v6) rfl (by kernel_rfl) (by kernel_rfl) (by kernel_rfl) (fun _ _ _ h => h) (Or.inl ⟨rfl, fun w' hw' => ?h6⟩) hHeld ?r6
          case h6 =>
            (go_simp; try omega)
            try with_reducible rfl
          simp only [List.getElem_toArray, List.getElem_cons_succ, List.getElem_cons_zero, Act.put, List.setIfInBounds_toArray, List.set_cons_zero, List.set_cons_succ]
          refine wpAnyH_take (i := 1) (v := ?v7) rfl (by kernel_rfl) (by kernel_rfl) (by kernel_rfl) (fun _ _ _ h => h) (Or.inl ⟨rfl, fun w' hw' => ?h7⟩) hHeld ?r7
          case h7 =>
            (go_simp; try omega)
            try with_reducible rfl
          simp only [List.getElem_toArray, List.getElem_cons_succ, List.getElem_cons_zero, Act.put, List.setIfInBounds_toArray, List.set_cons_zero, List.set_cons_succ]
          refine wpAnyH_take (i := 2) (v := Value.pointer (some ⟨g4, 0, none⟩)) rfl (by kernel_rfl) (by kernel_rfl) (by kernel_rfl) (fun _ _ _ h => h) (Or.inl ⟨rfl, fun w' hw' => ?_⟩) hHeld ?_
          · (go_simp; try omega)
          simp only [List.getElem_toArray, List.getElem_cons_succ, List.getElem_cons_zero, Act.put, List.setIfInBounds_toArray, List.set_cons_zero, List.set_cons_succ]
          refine wpAnyH_take (i := 3) (v := ?v9) rfl (by kernel_rfl) (by kernel_rfl) (by kernel_rfl) (fun _ _ _ h => h) (Or.inl ⟨rfl, fun w' hw' => ?h9⟩) hHeld ?r9
          case h9 =>
            (obtain d0 := hw'; go_simp)
            try with_reducible rfl
          simp only [List.getElem_toArray, List.getElem_cons_succ, List.getElem_cons_zero, Act.put, List.setIfInBounds_toArray, List.set_cons_zero, List.set_cons_succ]
          refine wpAnyH_take (i := 4) (v := ?v10) rfl (by kernel_rfl) (by kernel_rfl) (by kernel_rfl) (fun _ _ _ h => h) (Or.inl ⟨rfl, fun w' hw' => ?h10⟩) hHeld ?r10
          case h10 =>
            (go_simp; try omega)
            try with_reducible rfl
          simp only [List.getElem_toArray, List.getElem_cons_succ, List.getElem_cons_zero, Act.put, List.setIfInBounds_toArray, List.set_cons_zero, List.set_cons_succ]
          refine wpAnyH_take (i := 5) (v := ?v11) rfl (by kernel_rfl) (by kernel_rfl) (by kernel_rfl) (fun _ _ _ h => h) (Or.inl ⟨rfl, fun w' hw' => ?h11⟩) hHeld ?r11
          case h11 =>
            (go_simp; try omega)
            try with_reducible rfl
          simp only [List.getElem_toArray, List.getElem_cons_succ, List.getElem_cons_zero, Act.put, List.setIfInBounds_toArray, List.set_cons_zero, List.set_cons_succ]
          refine wpAnyH_done (by kernel_rfl) ?_ _
          refine NoPanic.normal ?_
          clear hHeld
          go_wp2_with fail
          go_roundw
          case rel => exact HRELX.out
          case measure => simp [intOf]; omega
      · have qe : ((r : Int) == (e1 : Int)) = false := by
          have : ¬ (r : Int) = (e1 : Int) := by omega
          simpa using this
        have HREL : Hid (LlI w e1 k (.pointer (some ⟨b, 0, none⟩)) (.int .i64 (y : Int)) (.int .i64 ((i : Int) + 1)) w5) := ⟨i + 1, b, G5, ox, (y : Int), hik, rfl, rfl, by go_num, H5.out, LkS.next HSS.out.1 HSS.out.2.1 HSS.out.2.2 (by rw [← HRR.out]; exact hcl)⟩
        clear H5 HSS
        go_wp2_with fail
        go_roundw
        case rel => exact HREL.out
        case measure => simp [intOf]; omega
    · obtain rfl : i = k := by omega
      have q1 : decide ((i : Int) < (i : Int)) = false := decide_eq_false (by omega)
      have HE := Lib.hid HL9.out.bel
      go_wp2_with fail
      go_ret
      exact ⟨rfl, HE.out⟩
end Go.Proofs.Ytjecjlnkpbbanaa
