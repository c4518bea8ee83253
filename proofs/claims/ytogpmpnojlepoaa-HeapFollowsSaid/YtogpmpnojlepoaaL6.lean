/- HeapSets, walked. -/
import Derived.Test.YtogpmpnojlepoaaL5
namespace Go.Proofs.Ytogpmpnojlepoaa
open Go Go.RowKit
set_option linter.unusedVariables false
set_option linter.unusedSimpArgs false
def fun6 (ps : List Int) : List Ob := atoms 6 ++ [newO 3 ps [5]]
theorem t6 : total (atoms 6) = 12 := by decide
theorem even_ob (ps : List Int) (q : Nat) (hq : q < 7) : (ob (fun6 ps) ((2 * q : Nat) : Int)).isSome = true := by
  unfold fun6
  rw [ob_snoc, t6]
  rcases (show q = 0 ∨ q = 1 ∨ q = 2 ∨ q = 3 ∨ q = 4 ∨ q = 5 ∨ q = 6 by omega) with rfl | rfl | rfl | rfl | rfl | rfl | rfl
  · rw [if_neg (by omega)]; decide
  · rw [if_neg (by omega)]; decide
  · rw [if_neg (by omega)]; decide
  · rw [if_neg (by omega)]; decide
  · rw [if_neg (by omega)]; decide
  · rw [if_neg (by omega)]; decide
  · rfl
theorem odd_ob (ps : List Int) (q : Nat) (hq : q < 7) : (ob (fun6 ps) (((2 * q : Nat) : Int) + 1)).isSome = false := by
  unfold fun6
  rw [ob_snoc, t6, if_neg (by omega)]
  rcases (show q = 0 ∨ q = 1 ∨ q = 2 ∨ q = 3 ∨ q = 4 ∨ q = 5 ∨ q = 6 by omega) with rfl | rfl | rfl | rfl | rfl | rfl | rfl <;> decide
theorem fun6_loc (ps : List Int) : loc (fun6 ps) 12 = some 6 := by
  unfold fun6; rw [loc_snoc, t6]; rfl
theorem fun6_hd (ps : List Int) : (hdo (fun6 ps) 12).p = ps.length ∧ (hdo (fun6 ps) 12).t = 3 := by
  have h : ob (fun6 ps) 12 = some (newO 3 ps [5]) := by unfold fun6; rw [ob_snoc, t6]; rfl
  unfold hdo; rw [h]; exact ⟨rfl, rfl⟩
theorem fun6_set (ps : List Int) (j : Nat) (hj : j < ps.length) (v : Int) : upd (fun6 ps) 6 (fun o => setO o ((j : Nat) : Int).toNat v) = fun6 (ps.set j v) := by
  have hl : 6 < (fun6 ps).length := by simp [fun6, atoms]
  rw [upd_eq hl]
  have e0 : (fun6 ps)[6]? = some (newO 3 ps [5]) := by
    unfold fun6
    rw [List.getElem?_append_right (by simp [atoms])]
    simp [atoms]
  have e : (fun6 ps)[6] = newO 3 ps [5] := (List.getElem?_eq_some_iff.1 e0).2
  rw [e]
  have e2 : setO (newO 3 ps [5]) ((j : Nat) : Int).toNat v = newO 3 (ps.set j v) [5] := by
    simp only [setO, newO, Int.toNat_natCast, List.length_set]
    rw [List.append_assoc, List.append_assoc, List.set_append_left _ _ hj]
  rw [e2]
  unfold fun6
  rw [List.set_append_right _ _ (by simp [atoms])]
  simp [atoms]
theorem fun6_ptrs (ps : List Int) : ptrsOf (fun6 ps) 12 = ps := by
  have h := ptrs_new (atoms 6) 3 ps [5]
  rw [t6] at h; exact h
theorem fun6_nums (ps : List Int) : numsOf (fun6 ps) 12 = [5] := by
  have h := nums_new (atoms 6) 3 ps [5]
  rw [t6] at h; exact h
def SetsInv (B : World) (b gw k : Nat) (iv : Value) (wr : World) : Prop :=
  ∃ (i : Nat) (ps : List Int) (G : Option Nat), i ≤ 40 ∧ iv = .int .i64 (i : Int) ∧ ps.length = k ∧ HL B wr b G (fun6 ps) 200 ∧ IRw wr gw ps ∧ gw ≠ b ∧ G ≠ some gw ∧ B.heap.size ≤ gw
/-- Own row beside a heap that turns. -/
theorem HL.turnR {B w w' : World} {b gw : Nat} {G : Option Nat} {os os' : List Ob} {m : Nat} {e : Ending} {v : Value} {ps : List Int} (h : HL B w b G os m) (hr : RetHp v b G os' m w e w') (hg : IRw w gw ps) (h1 : gw ≠ b) (h2 : G ≠ some gw) :
    e = .returned v ∧ ∃ G', HL B w' b G' os' m ∧ IRw w' gw ps ∧ G' ≠ some gw := by
  obtain ⟨he, _⟩ := h.turn hr
  obtain ⟨-, G', h3, hfr, hgg⟩ := hr
  have hs := h.bel.size
  refine ⟨he, G', ⟨h3, h.bel.trans (hfr.below (fun x hx h4 => ?_) hs), h.hb, fun k hk => ?_⟩, hg.fr hfr (fun h => ?_), fun e => ?_⟩
  · rcases h4 with h4 | h4
    · have := h.hb; omega
    · have := h.hg x h4; omega
  · rcases hgg k hk with h4 | h4
    · exact h.hg k h4
    · omega
  · rcases h with h | h
    · exact h1 h
    · exact h2 h
  · rcases hgg _ e with h4 | h4
    · exact h2 h4
    · have := hg.lt; omega
set_option maxHeartbeats 16000000 in
set_option maxRecDepth 100000 in
theorem sets_walk (n : Int) (a : Option Addr) (len cap : Nat) (zs : List Int) (w : World) (hn : I64 n) (hA : IsRow .i64 w a len cap zs) : Calls Try.prog 10 #[.int .i64 n, .slice a len cap] w (RetV (.bool true) w) := by
  have HA := Lib.hid hA.arg
  have hlen := hA.arg.1
  clear hA
  go_enter Try.func10, Try.ntmps10
  go_wp2_with fail
  refine (known_any w).mono ?_
  rintro e wk ⟨rfl, hbk⟩
  have HBK := Lib.hid hbk
  clear hbk
  go_wp2_with fail
  refine (new_any 200 (by omega) (by omega) wk).mono ?_
  rintro e w1 ⟨rfl, hw1⟩
  have e1 : w1 = wk.alloc (.cells #[.slice none 0 0, .int .i64 ((200 : Nat) : Int)] 49) := hw1
  have H1 := Lib.hid (HL.new HBK.out 200 (by omega))
  rw [← e1] at H1
  clear hw1 e1
  obtain ⟨b, hb⟩ : ∃ b, b = wk.heap.size := ⟨_, rfl⟩
  rw [← hb] at H1 ⊢
  clear hb HBK
  go_wp2_with fail
  have H0 : Hid (AtInv w b 200 6 w1 (.int .i64 0) w1) := ⟨0, Nat.zero_le _, rfl, none, H1.out⟩
  clear H1
  go_loopw [6] (fun iv wr => AtInv w b 200 6 w1 iv wr) (fun iv _ => 6 - (intOf iv).toNat)
  case atStart => exact H0.out
  case round =>
    clear H0
    obtain ⟨i, hi, rfl, G, hl⟩ := hrel
    have HH := Lib.hid hl
    clear hl
    by_cases hik : i < 6
    · have q1 : decide ((i : Int) < 6) = true := decide_eq_true (by omega)
      have F := Lib.hid (atom_more HH.out (by omega))
      go_wp2_with fail
      refine F.out.mono ?_
      rintro e w3 ⟨rfl, G3, h3⟩
      have HR : Hid (AtInv w b 200 6 w1 (.int .i64 ((i : Int) + 1)) w3) := ⟨i + 1, by omega, by go_num, G3, h3⟩
      clear h3 F
      go_wp2_with fail
      go_roundw
      case rel => exact HR.out
      case measure => simp [intOf]; omega
    · obtain rfl : i = 6 := by omega
      obtain ⟨k0, hk0, -, F⟩ := within_at n 20 hn (by omega) (by omega) wr
      have F13 := Lib.hid F
      clear F hn
      obtain ⟨k, hk⟩ : ∃ k, k = k0 + 1 := ⟨_, rfl⟩
      have hk1 : 1 + (k0 : Int) = (k : Int) := by omega
      have hkb : k ≤ 20 ∧ 1 ≤ k := by omega
      have hmk := run_make_ints k (by omega) wr
      have hr0 : IRw (wr.alloc (.cells (ivals (List.replicate k 0)) 3)) wr.heap.size (List.replicate k 0) := alloc_at wr _
      have hb0 : Below wr.heap.size wr (wr.alloc (.cells (ivals (List.replicate k 0)) 3)) := (Below.refl _ _).alloc (Nat.le_refl _) _
      have h1 := HH.out.hp.1.lt
      have h2 := HH.out.hp.1.glt
      have h3 := HH.out.bel.size
      obtain ⟨gw, hgw⟩ : ∃ gw, gw = wr.heap.size := ⟨_, rfl⟩
      rw [← hgw] at hr0 hmk
      have HGW : Hid (gw ≠ b ∧ G ≠ some gw ∧ w.heap.size ≤ gw) := ⟨by omega, fun e => by have := (h2 _ e).1; omega, by omega⟩
      generalize hW2 : wr.alloc (.cells (ivals (List.replicate k 0)) 3) = W2 at hr0 hmk hb0
      have HR0 := Lib.hid hr0
      have H2 := Lib.hid (HH.out.below hb0)
      clear hk hk0 hr0 hb0 h1 h2 h3 hgw HH hW2
      go_wp2_with fail
      refine F13.out.mono ?_
      rintro e w3 ⟨rfl, rfl⟩
      clear F13
      go_upto_region 12 with fail
      have hb5 : Below W2.heap.size W2 (W2.alloc (.cells #[.int .i64 5] 3)) := (Below.refl _ _).alloc (Nat.le_refl _) _
      have H3 := Lib.hid (H2.out.below hb5)
      have HR3 := Lib.hid (HR0.out.below hb5)
      have F22 := Lib.hid (alloc_yes H3.out.hp 3 (List.replicate k 0) [5] _ _ (HR3.out.isS (n := k) (by simp)) (one_isS W2 5) (apart_lt rfl HGW.out.1 HGW.out.2.1) H2.out.apart (fun p hp => by rw [(List.mem_replicate.1 hp).2]; omega) (by rw [fitF]; simp; omega) (any_rep k _ (by decide)) (by rw [t6]; simp [sizeF]; omega))
      clear hb5
      go_wp2_with fail
      refine F22.out.mono ?_
      rintro e w4 hr
      obtain ⟨rfl, G4, h4, hr4, hg4⟩ := H3.out.turnR hr HR3.out HGW.out.1 HGW.out.2.1
      have HS0 : Hid (SetsInv w b gw k (.int .i64 0) w4) := ⟨0, List.replicate k 0, G4, by omega, rfl, by simp, h4, hr4, HGW.out.1, hg4, HGW.out.2.2⟩
      rw [show ((total (atoms 6) : Nat) : Int) = 12 by rw [t6]; rfl]
      simp only [pair2]
      clear F22 hr h4 hr4 hg4 H3 HR3 H2 HR0 HGW hmk
      go_wp2_with fail
      go_loopw [11] (fun iv wr => SetsInv w b gw k iv wr) (fun iv _ => 40 - (intOf iv).toNat)
      case atStart => exact HS0.out
      case round =>
        clear HS0
        obtain ⟨i, ps, G, hi, rfl, hps, hl, hrow, hg1, hg2, hg3⟩ := hrel
        have HH := Lib.hid hl
        have HR := Lib.hid hrow
        have HGW : Hid (gw ≠ b ∧ G ≠ some gw ∧ w.heap.size ≤ gw) := ⟨hg1, hg2, hg3⟩
        have HPS := Lib.hid hps
        clear hl hrow hg1 hg2 hg3 hps
        by_cases hgo : i < len ∧ i < 40
        · obtain ⟨hil, hi40⟩ := hgo
          have q1 : decide ((i : Int) < (len : Int)) = true := decide_eq_true (by omega)
          have q2 : decide ((i : Int) < 40) = true := decide_eq_true (by omega)
          obtain ⟨x, y, rfl, hc, hy⟩ := (HA.out.below HH.out.bel).2 i hil
          have hxb := World.block_lt_of_cell? _ _ hc
          have HC : Hid (∀ w', Below wr.heap.size wr w' → w'.cell? (x.add i) = some (.int .i64 y)) := fun w' hw' => (hw'.cell hxb).trans hc
          obtain ⟨jn, hjn, -, -⟩ := within_at y (k + 2) hy (by omega) (by omega) wr
          have F1 : Hid (∃ jn : Nat, jn < k + 2 ∧ ∀ W, Calls Try.prog 13 #[.int .i64 y, .int .i64 ((k : Int) + 2)] W fun e w' => e = .returned (.int .i64 (jn : Int)) ∧ W = w') := by
            have h3 := Int.emod_nonneg y (show ((k : Int) + 2) ≠ 0 by omega)
            have h4 := Int.emod_lt_of_pos y (show (0 : Int) < (k : Int) + 2 by omega)
            refine ⟨(y % ((k : Int) + 2)).toNat, by omega, fun W => ?_⟩
            rw [show (((y % ((k : Int) + 2)).toNat : Nat) : Int) = y % ((k : Int) + 2) by omega]
            exact within_any y _ W hy.1 hy.2 (by omega) (by omega)
          have HYB : Hid (-9223372036854775808 ≤ y.tdiv 30 ∧ y.tdiv 30 ≤ 9223372036854775807) := by
            show _ ∧ _
            have h5 := Int.mul_tdiv_add_tmod y 30
            have := hy.1
            have := hy.2
            have h6 := Int.tmod_lt_of_pos y (show (0 : Int) < 30 by omega)
            have h7 := Int.lt_tmod_of_pos y (show (0 : Int) < 30 by omega)
            omega
          have F2 : Hid (∃ qn : Nat, qn < 7 ∧ ∀ W, Calls Try.prog 13 #[.int .i64 (y.tdiv 30), .int .i64 7] W fun e w' => e = .returned (.int .i64 (qn : Int)) ∧ W = w') := by
            have h3 := Int.emod_nonneg (y.tdiv 30) (show (7 : Int) ≠ 0 by omega)
            have h4 := Int.emod_lt_of_pos (y.tdiv 30) (show (0 : Int) < 7 by omega)
            have hy2 := HYB.out
            refine ⟨(y.tdiv 30 % 7).toNat, by omega, fun W => ?_⟩
            rw [show (((y.tdiv 30 % 7).toNat : Nat) : Int) = y.tdiv 30 % 7 by omega]
            exact within_any _ 7 W hy2.1 hy2.2 (by omega) (by omega)
          clear jn hjn hc hxb
          obtain ⟨jn, hjn, F1⟩ := F1.out
          obtain ⟨qn, hqn, F2⟩ := F2.out
          have HF1 := Lib.hid F1
          have HF2 := Lib.hid F2
          obtain ⟨d, hd⟩ : ∃ d, d = y.tdiv 30 := ⟨_, rfl⟩
          rw [← hd] at HF2
          have HD := Lib.hid hd
          clear F1 F2 hd
          go_upto_region 18 with fail
          refine wp_region_noPanic ?_
          refine wp_region_held_drew (S := Below wr.heap.size wr) (by kernel_rfl) ((Below.refl _ _).drew) (fun hHeld => ?_)
          generalize wr.drew = X at hHeld ⊢
          have HBX := Lib.hid hHeld
          refine wpAnyH_take (i := 0) (v := ?v0) rfl (by kernel_rfl) (by kernel_rfl) (by kernel_rfl) (fun _ _ _ h => h) (Or.inl ⟨rfl, fun w' hw' => ?h0⟩) hHeld ?r0
          case h0 =>
            go_simp
            try with_reducible rfl
          simp only [List.getElem_toArray, List.getElem_cons_succ, List.getElem_cons_zero, Act.put, List.setIfInBounds_toArray, List.set_cons_zero, List.set_cons_succ]
          refine wpAnyH_take (i := 1) (v := ?v1) rfl (by kernel_rfl) (by kernel_rfl) (by kernel_rfl) (fun _ _ _ h => h) (Or.inl ⟨rfl, fun w' hw' => ?h1⟩) hHeld ?r1
          case h1 =>
            go_simp
            try with_reducible rfl
          simp only [List.getElem_toArray, List.getElem_cons_succ, List.getElem_cons_zero, Act.put, List.setIfInBounds_toArray, List.set_cons_zero, List.set_cons_succ]
          refine wpAnyH_take (i := 2) (v := ?v2) rfl (by kernel_rfl) (by kernel_rfl) (by kernel_rfl) (fun _ _ _ h => h) (Or.inl ⟨rfl, fun w' hw' => ?h2⟩) hHeld ?r2
          case h2 =>
            go_simp
            try with_reducible rfl
          simp only [List.getElem_toArray, List.getElem_cons_succ, List.getElem_cons_zero, Act.put, List.setIfInBounds_toArray, List.set_cons_zero, List.set_cons_succ]
          refine wpAnyH_take (i := 3) (v := ?v3) rfl (by kernel_rfl) (by kernel_rfl) (by kernel_rfl) (fun _ _ _ h => h) (Or.inl ⟨rfl, fun w' hw' => ?h3⟩) hHeld ?r3
          case h3 =>
            (have d0 := HC.out w' hw'; go_simp)
            try with_reducible rfl
          simp only [List.getElem_toArray, List.getElem_cons_succ, List.getElem_cons_zero, Act.put, List.setIfInBounds_toArray, List.set_cons_zero, List.set_cons_succ]
          refine wpAnyH_take (i := 4) (v := ?v4) rfl (by kernel_rfl) (by kernel_rfl) (by kernel_rfl) (fun _ _ _ h => h) (Or.inl ⟨rfl, fun w' hw' => ?h4⟩) hHeld ?r4
          case h4 =>
            go_simp
            try with_reducible rfl
          simp only [List.getElem_toArray, List.getElem_cons_succ, List.getElem_cons_zero, Act.put, List.setIfInBounds_toArray, List.set_cons_zero, List.set_cons_succ]
          refine wpAnyH_take (i := 5) (v := Value.int .i64 ((k : Int) + 2)) rfl (by kernel_rfl) (by kernel_rfl) (by kernel_rfl) (fun _ _ _ h => h) (Or.inl ⟨rfl, fun w' hw' => ?_⟩) hHeld ?_
          · (go_simp; try (rw [IntKind.wrap_i64]; omega))
          simp only [List.getElem_toArray, List.getElem_cons_succ, List.getElem_cons_zero, Act.put, List.setIfInBounds_toArray, List.set_cons_zero, List.set_cons_succ]
          refine wpAnyH_take (i := 8) (v := ?v6) rfl (by kernel_rfl) (by kernel_rfl) (by kernel_rfl) (fun _ _ _ h => h) (Or.inl ⟨rfl, fun w' hw' => ?h6⟩) hHeld ?r6
          case h6 =>
            go_simp
            try with_reducible rfl
          simp only [List.getElem_toArray, List.getElem_cons_succ, List.getElem_cons_zero, Act.put, List.setIfInBounds_toArray, List.set_cons_zero, List.set_cons_succ]
          refine wpAnyH_take (i := 9) (v := ?v7) rfl (by kernel_rfl) (by kernel_rfl) (by kernel_rfl) (fun _ _ _ h => h) (Or.inl ⟨rfl, fun w' hw' => ?h7⟩) hHeld ?r7
          case h7 =>
            go_simp
            try with_reducible rfl
          simp only [List.getElem_toArray, List.getElem_cons_succ, List.getElem_cons_zero, Act.put, List.setIfInBounds_toArray, List.set_cons_zero, List.set_cons_succ]
          refine wpAnyH_take (i := 10) (v := ?v8) rfl (by kernel_rfl) (by kernel_rfl) (by kernel_rfl) (fun _ _ _ h => h) (Or.inl ⟨rfl, fun w' hw' => ?h8⟩) hHeld ?r8
          case h8 =>
            go_simp
            try with_reducible rfl
          simp only [List.getElem_toArray, List.getElem_cons_succ, List.getElem_cons_zero, Act.put, List.setIfInBounds_toArray, List.set_cons_zero, List.set_cons_succ]
          refine wpAnyH_take (i := 11) (v := ?v9) rfl (by kernel_rfl) (by kernel_rfl) (by kernel_rfl) (fun _ _ _ h => h) (Or.inl ⟨rfl, fun w' hw' => ?h9⟩) hHeld ?r9
          case h9 =>
            (have d0 := HC.out w' hw'; go_simp)
            try with_reducible rfl
          simp only [List.getElem_toArray, List.getElem_cons_succ, List.getElem_cons_zero, Act.put, List.setIfInBounds_toArray, List.set_cons_zero, List.set_cons_succ]
          refine wpAnyH_take (i := 12) (v := Value.int .i64 d) rfl (by kernel_rfl) (by kernel_rfl) (by kernel_rfl) (fun _ _ _ h => h) (Or.inl ⟨rfl, fun w' hw' => ?_⟩) hHeld ?_
          · (go_simp; rw [HD.out, IntKind.wrap_i64]; have := HYB.out; omega)
          simp only [List.getElem_toArray, List.getElem_cons_succ, List.getElem_cons_zero, Act.put, List.setIfInBounds_toArray, List.set_cons_zero, List.set_cons_succ]
          refine wpAnyH_ready (rs := [6]) (by kernel_rfl) (by simp) ?_
          refine (AllReadyH.cons rfl (fun K hK => ?_) AllReadyH.nil)
          go_simp
          refine (HF1.out X).mono ?_
          rintro e w9 ⟨rfl, rfl⟩
          refine hK.out _ _ hHeld (fun hHeld => ?_)
          clear hK K
          try simp only [List.getElem_toArray, List.getElem_cons_succ, List.getElem_cons_zero, Act.put, List.setIfInBounds_toArray, List.set_cons_zero, List.set_cons_succ]
          refine wpAnyH_take (i := 7) (v := Value.int .i64 ((jn : Int) - 1)) rfl (by kernel_rfl) (by kernel_rfl) (by kernel_rfl) (fun _ _ _ h => h) (Or.inl ⟨rfl, fun w' hw' => ?_⟩) hHeld ?_
          · (go_simp; try (rw [IntKind.wrap_i64]; omega))
          simp only [List.getElem_toArray, List.getElem_cons_succ, List.getElem_cons_zero, Act.put, List.setIfInBounds_toArray, List.set_cons_zero, List.set_cons_succ]
          refine wpAnyH_ready (rs := [13]) (by kernel_rfl) (by simp) ?_
          refine (AllReadyH.cons rfl (fun K hK => ?_) AllReadyH.nil)
          go_simp
          refine (HF2.out X).mono ?_
          rintro e w9 ⟨rfl, rfl⟩
          refine hK.out _ _ hHeld (fun hHeld => ?_)
          clear hK K
          try simp only [List.getElem_toArray, List.getElem_cons_succ, List.getElem_cons_zero, Act.put, List.setIfInBounds_toArray, List.set_cons_zero, List.set_cons_succ]
          refine wpAnyH_take (i := 14) (v := Value.int .i64 (2 * (qn : Int))) rfl (by kernel_rfl) (by kernel_rfl) (by kernel_rfl) (fun _ _ _ h => h) (Or.inl ⟨rfl, fun w' hw' => ?_⟩) hHeld ?_
          · (go_simp; try (rw [IntKind.wrap_i64]; omega))
          simp only [List.getElem_toArray, List.getElem_cons_succ, List.getElem_cons_zero, Act.put, List.setIfInBounds_toArray, List.set_cons_zero, List.set_cons_succ]
          refine wpAnyH_take (i := 15) (v := ?v13) rfl (by kernel_rfl) (by kernel_rfl) (by kernel_rfl) (fun _ _ _ h => h) (Or.inl ⟨rfl, fun w' hw' => ?h13⟩) hHeld ?r13
          case h13 =>
            go_simp
            try with_reducible rfl
          simp only [List.getElem_toArray, List.getElem_cons_succ, List.getElem_cons_zero, Act.put, List.setIfInBounds_toArray, List.set_cons_zero, List.set_cons_succ]
          refine wpAnyH_take (i := 16) (v := ?v14) rfl (by kernel_rfl) (by kernel_rfl) (by kernel_rfl) (fun _ _ _ h => h) (Or.inl ⟨rfl, fun w' hw' => ?h14⟩) hHeld ?r14
          case h14 =>
            go_simp
            try with_reducible rfl
          simp only [List.getElem_toArray, List.getElem_cons_succ, List.getElem_cons_zero, Act.put, List.setIfInBounds_toArray, List.set_cons_zero, List.set_cons_succ]
          refine wpAnyH_done (by kernel_rfl) ?_ _
          refine NoPanic.normal ?_
          clear hHeld
          have HJ : Hid (HL w X b G (fun6 ps) 200 ∧ IRw X gw ps) := ⟨HH.out.below HBX.out, HR.out.below HBX.out⟩
          have hjb : -1000000000 ≤ (jn : Int) - 1 ∧ (jn : Int) - 1 ≤ 1000000000 := by omega
          have e12 : loc (fun6 ps) 12 = some 6 := fun6_loc ps
          have ep : (hdo (fun6 ps) 12).p = k := by rw [(fun6_hd ps).1, HPS.out]
          have hev := even_ob ps qn hqn
          rw [show ((2 * qn : Nat) : Int) = 2 * (qn : Int) by omega] at hev
          have hod := odd_ob ps qn hqn
          rw [show ((2 * qn : Nat) : Int) = 2 * (qn : Int) by omega] at hod
          obtain ⟨tv, htv⟩ : ∃ tv : Int, tv = 2 * (qn : Int) := ⟨_, rfl⟩
          rw [← htv] at hev hod ⊢
          have htb : 0 ≤ tv ∧ tv ≤ 12 := by omega
          clear htv HD HYB HF1 HF2 HC HBX
          by_cases hfine : 1 ≤ jn ∧ jn ≤ k
          · obtain ⟨j, hj⟩ : ∃ j : Nat, (jn : Int) - 1 = (j : Int) := ⟨jn - 1, by omega⟩
            rw [hj]
            have hjk : j < k := by omega
            have q3 : decide ((0 : Int) ≤ (j : Int)) = true := decide_eq_true (by omega)
            have q4 : decide ((j : Int) < (k : Int)) = true := decide_eq_true (by omega)
            have FS := Lib.hid (set_yes HJ.out.1.hp 12 (j : Int) tv (by omega) (by omega) (by omega) (by omega) (by omega) (by omega) 6 e12 (by omega) (by rw [ep]; omega) hev)
            rw [fun6_set ps j (by rw [HPS.out]; exact hjk)] at FS
            have hod2 : (ob (fun6 (ps.set j tv)) (tv + 1)).isSome = false := by
              rw [← fun6_set ps j (by rw [HPS.out]; exact hjk), upd_eq (by simp [fun6, atoms]), some_set (by simp [fun6, atoms]) (by simp [setO])]; exact hod
            have HOD := Lib.hid hod2
            clear hod hod2 hev e12 ep hj hfine hjb hjn
            go_wp2_with fail
            refine FS.out.mono ?_
            rintro e w5 hr
            obtain ⟨rfl, G5, h5, hr5, hg5⟩ := HJ.out.1.turnR hr HJ.out.2 HGW.out.1 HGW.out.2.1
            have H5 := Lib.hid h5
            have R5 := Lib.hid hr5
            have G55 := Lib.hid hg5
            clear hr h5 hr5 hg5 FS HJ HH HR
            have FN := Lib.hid (set_no H5.out.hp 12 (j : Int) (tv + 1) (by omega) (by omega) (by omega) (by omega) (by omega) (by omega) (.inr (.inr HOD.out)))
            go_wp2_with fail
            refine FN.out.mono ?_
            rintro e w6 ⟨rfl, hb6⟩
            have H6 := Lib.hid (H5.out.below hb6)
            have R6 := Lib.hid (R5.out.below hb6)
            have hc6 := R6.out.cell j (by rw [HPS.out]; exact hjk)
            have hf6 := frozen_of_row _ _ j _ _ R6.out
            generalize ps[j]'(by rw [HPS.out]; exact hjk) = z at hc6
            have H7 : Hid (SetsInv w b gw k (.int .i64 ((i : Int) + 1)) (w6.setCell ⟨gw, j, none⟩ (.int .i64 tv))) := by
              refine ⟨i + 1, ps.set j tv, G5, by omega, by go_num, by rw [List.length_set, HPS.out], ?_, R6.out.put j tv, HGW.out.1, G55.out, HGW.out.2.2⟩
              exact H6.out.fr (F := fun x => x = gw) (Fr.setCell (F := fun x => x = gw) (p := ⟨gw, j, none⟩) (Fr.refl _ _) rfl _) (fun h => HGW.out.1 h.symm) (fun x hx h => G55.out (by rw [hx, h])) (fun x hx h => by have := HGW.out.2.2; omega)
            clear hb6 FN H5 R5 H6 R6 HOD
            go_wp2_with fail
            go_roundw
            case rel => exact H7.out
            case measure => simp [intOf]; omega
          · have hno : (jn : Int) - 1 < 0 ∨ (((hdo (fun6 ps) 12).p : Nat) : Int) ≤ (jn : Int) - 1 ∨ (ob (fun6 ps) tv).isSome = false := by rw [ep]; omega
            have FS := Lib.hid (set_no HJ.out.1.hp 12 ((jn : Int) - 1) tv (by omega) (by omega) (by omega) (by omega) (by omega) (by omega) hno)
            have FN := Lib.hid (fun W (hb : Below X.heap.size X W) => set_no (HJ.out.1.below hb).hp 12 ((jn : Int) - 1) (tv + 1) (by omega) (by omega) (by omega) (by omega) (by omega) (by omega) (.inr (.inr hod)))
            obtain ⟨jv, hjv⟩ : ∃ jv, jv = (jn : Int) - 1 := ⟨_, rfl⟩
            rw [← hjv] at FS FN ⊢
            have hjv2 : jv < 0 ∨ (k : Int) ≤ jv := by omega
            clear hno hev hod e12 ep hjb hjn hjv hfine
            by_cases h0 : 0 ≤ jv
            · have q3 : decide (0 ≤ jv) = true := decide_eq_true h0
              have q4 : decide (jv < (k : Int)) = false := decide_eq_false (by omega)
              go_wp2_with fail
              refine FS.out.mono ?_
              rintro e w5 ⟨rfl, hb5⟩
              have HB5 := Lib.hid hb5
              clear hb5 FS
              go_wp2_with fail
              refine (FN.out w5 HB5.out).mono ?_
              rintro e w6 ⟨rfl, hb6⟩
              have HB6 := Lib.hid (HB5.out.trans (hb6.mono HB5.out.size))
              have H7 : Hid (SetsInv w b gw k (.int .i64 ((i : Int) + 1)) w6) := ⟨i + 1, ps, G, by omega, by go_num, HPS.out, HJ.out.1.below HB6.out, HJ.out.2.below HB6.out, HGW.out.1, HGW.out.2.1, HGW.out.2.2⟩
              clear hb6 FN
              go_wp2_with fail
              go_roundw
              case rel => exact H7.out
              case measure => simp [intOf]; omega
            · have q3 : decide (0 ≤ jv) = false := decide_eq_false h0
              go_wp2_with fail
              refine FS.out.mono ?_
              rintro e w5 ⟨rfl, hb5⟩
              have HB5 := Lib.hid hb5
              clear hb5 FS
              go_wp2_with fail
              refine (FN.out w5 HB5.out).mono ?_
              rintro e w6 ⟨rfl, hb6⟩
              have HB6 := Lib.hid (HB5.out.trans (hb6.mono HB5.out.size))
              have H7 : Hid (SetsInv w b gw k (.int .i64 ((i : Int) + 1)) w6) := ⟨i + 1, ps, G, by omega, by go_num, HPS.out, HJ.out.1.below HB6.out, HJ.out.2.below HB6.out, HGW.out.1, HGW.out.2.1, HGW.out.2.2⟩
              clear hb6 FN
              go_wp2_with fail
              go_roundw
              case rel => exact H7.out
              case measure => simp [intOf]; omega
        · have FP := Lib.hid (ptrs_o HH.out.hp 12 (by omega) (by omega))
          have FN := Lib.hid (fun W (hb : Below wr.heap.size wr W) => nums_o (HH.out.below hb).hp 12 (by omega) (by omega))
          have FT := Lib.hid (fun W (hb : Below wr.heap.size wr W) => tagm_any (HH.out.below hb).hp 12 (by omega) (by omega))
          rw [fun6_ptrs] at FP
          rw [fun6_nums] at FN
          rw [(fun6_hd ps).2] at FT
          by_cases hil : i < len
          · have q1 : decide ((i : Int) < (len : Int)) = true := decide_eq_true (by omega)
            have q2 : decide ((i : Int) < 40) = false := decide_eq_false (by omega)
            go_wp2_with fail
            refine FP.out.mono ?_
            rintro e w5 hr
            obtain ⟨ao5, c5, rfl, ho5, hb5⟩ := hr.form
            have R5 := Lib.hid (own_isS ho5)
            have HB5 := Lib.hid hb5
            rw [HPS.out] at R5
            simp only [HPS.out]
            clear hr ho5 hb5 FP
            have F24 := Lib.hid (ints_eq R5.out ((HR.out.below HB5.out).isS (n := k) HPS.out) (by rw [HPS.out]; omega))
            go_wp2_with fail
            refine F24.out.mono ?_
            rintro e w6 ⟨rfl, hb6⟩
            have HB6 := Lib.hid (HB5.out.trans (hb6.mono HB5.out.size))
            clear hb6 F24 R5 HB5
            go_wp2_with fail
            refine (FN.out w6 HB6.out).mono ?_
            rintro e w7 hr
            obtain ⟨ao7, c7, rfl, ho7, hb7⟩ := hr.form
            have R7 := Lib.hid (own_isS ho7)
            have HB7 := Lib.hid (HB6.out.trans (hb7.mono HB6.out.size))
            simp only [List.length_cons, List.length_nil] at R7 ⊢
            clear hr ho7 hb7 FN HB6
            have hA := (Below.refl w7.heap.size w7).alloc (Nat.le_refl _) (.cells #[.int .i64 5] 3)
            have F24 := Lib.hid (ints_eq (R7.out.below hA) (one_isS w7 5) (by simp))
            have HB8 := Lib.hid (HB7.out.trans (hA.mono HB7.out.size))
            clear hA HB7
            go_wp2_with fail
            refine F24.out.mono ?_
            rintro e w9 ⟨rfl, hb9⟩
            have HB9 := Lib.hid (HB8.out.trans (hb9.mono HB8.out.size))
            clear hb9 F24 HB8
            go_wp2_with fail
            refine (FT.out w9 HB9.out).mono ?_
            rintro e w10 ⟨rfl, hb10⟩
            have HBE := Lib.hid (HB9.out.trans (hb10.mono HB9.out.size))
            clear hb10 FT HB9
            go_wp2_with fail
            go_ret
            exact ⟨rfl, (HH.out.below HBE.out).bel⟩
          · have q1 : decide ((i : Int) < (len : Int)) = false := decide_eq_false (by omega)
            go_wp2_with fail
            refine FP.out.mono ?_
            rintro e w5 hr
            obtain ⟨ao5, c5, rfl, ho5, hb5⟩ := hr.form
            have R5 := Lib.hid (own_isS ho5)
            have HB5 := Lib.hid hb5
            rw [HPS.out] at R5
            simp only [HPS.out]
            clear hr ho5 hb5 FP
            have F24 := Lib.hid (ints_eq R5.out ((HR.out.below HB5.out).isS (n := k) HPS.out) (by rw [HPS.out]; omega))
            go_wp2_with fail
            refine F24.out.mono ?_
            rintro e w6 ⟨rfl, hb6⟩
            have HB6 := Lib.hid (HB5.out.trans (hb6.mono HB5.out.size))
            clear hb6 F24 R5 HB5
            go_wp2_with fail
            refine (FN.out w6 HB6.out).mono ?_
            rintro e w7 hr
            obtain ⟨ao7, c7, rfl, ho7, hb7⟩ := hr.form
            have R7 := Lib.hid (own_isS ho7)
            have HB7 := Lib.hid (HB6.out.trans (hb7.mono HB6.out.size))
            simp only [List.length_cons, List.length_nil] at R7 ⊢
            clear hr ho7 hb7 FN HB6
            have hA := (Below.refl w7.heap.size w7).alloc (Nat.le_refl _) (.cells #[.int .i64 5] 3)
            have F24 := Lib.hid (ints_eq (R7.out.below hA) (one_isS w7 5) (by simp))
            have HB8 := Lib.hid (HB7.out.trans (hA.mono HB7.out.size))
            clear hA HB7
            go_wp2_with fail
            refine F24.out.mono ?_
            rintro e w9 ⟨rfl, hb9⟩
            have HB9 := Lib.hid (HB8.out.trans (hb9.mono HB8.out.size))
            clear hb9 F24 HB8
            go_wp2_with fail
            refine (FT.out w9 HB9.out).mono ?_
            rintro e w10 ⟨rfl, hb10⟩
            have HBE := Lib.hid (HB9.out.trans (hb10.mono HB9.out.size))
            clear hb10 FT HB9
            go_wp2_with fail
            go_ret
            exact ⟨rfl, (HH.out.below HBE.out).bel⟩
end Go.Proofs.Ytogpmpnojlepoaa
