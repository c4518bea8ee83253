/- HeapFollows, walked. -/
import Derived.Test.YtogpmpnojlepoaaLF0
namespace Go.Proofs.Ytogpmpnojlepoaa
open Go Go.RowKit
set_option linter.unusedVariables false
set_option linter.unusedSimpArgs false
theorem St.cellD {B w : World} {b g : Nat} {G : Option Nat} {os : List Ob} {l : List Int} (h : St B w b g G os l) (j : Nat) (hj : j < l.length) : w.cell? ⟨g, j, none⟩ = some (.int .i64 (l.getD j 0)) := by
  rw [getD_at hj]; exact h.2.1.cell j hj
theorem ch_swapD {os : List Ob} {l : List Int} (h : Ch os l 0) {i j : Nat} (hi : i < l.length) (hj : j < l.length) : Ch os ((l.set i (l.getD j 0)).set j (l.getD i 0)) 0 := by
  rw [getD_at hi, getD_at hj]; exact ch_swap h hi hj
theorem L0B {w : World} {b : Nat} {G : Option Nat} {os : List Ob} {l : List Int} {i : Nat} (h : Ch os l i) (hh : HpO w b G os 100) (h0 : 0 < l.length) : -1000000000 ≤ l.getD 0 0 ∧ l.getD 0 0 ≤ 1000000000 := by
  rw [getD_at h0]
  have := ch_bd h hh h0
  omega
def Lp1 (B : World) (b n : Nat) (vv iv : Value) (wr : World) : Prop := ∃ (i : Nat) (os : List Ob) (G : Option Nat), i ≤ n ∧ os.length = i ∧ iv = .int .i64 (i : Int) ∧ (∀ o ∈ os, o.tag = 4 ∧ o.body.length = 1) ∧ total os = 2 * os.length ∧ HL B wr b G os 100 ∧
  wr.ownsRow B.heap.size 3 1 vv i ((adrs os).map (Value.int .i64)) ∧ Beside vv b G
def Lp2 (B : World) (b g n : Nat) (os : List Ob) (iv : Value) (wr : World) : Prop := ∃ (i : Nat) (l : List Int) (G : Option Nat), i ≤ 30 ∧ iv = .int .i64 (i : Int) ∧ l.length = n ∧ Ch os l 0 ∧ St B wr b g G os l
def Lp3 (B : World) (b g n : Nat) (l : List Int) (iv : Value) (wr : World) : Prop := ∃ (i : Nat) (os : List Ob) (G : Option Nat), i + 1 ≤ n ∧ iv = .int .i64 (i : Int) ∧ Ch os l i ∧ St B wr b g G os l
def Lp4 (W : World) (n : Nat) (iv : Value) (wr : World) : Prop := ∃ j : Nat, j ≤ n ∧ iv = .int .i64 (j : Int) ∧ Below W.heap.size W wr
set_option maxHeartbeats 16000000 in
set_option maxRecDepth 100000 in
theorem follows_walk (k0 : Int) (a : Option Addr) (len cap : Nat) (zs : List Int) (ring : Bool) (w : World) (hk0 : I64 k0) (hA : IsRow .i64 w a len cap zs) : Calls Try.prog 6 #[.int .i64 k0, .slice a len cap, .bool ring] w (RetV (.bool true) w) := by
  have HA := Lib.hid hA.arg
  have hlen := hA.arg.1
  clear hA
  go_enter Try.func6, Try.ntmps6
  go_wp2_with fail
  refine (known_any w).mono ?_
  rintro e wk ⟨rfl, hbk⟩
  have HBK := Lib.hid hbk
  clear hbk
  go_wp2_with fail
  obtain ⟨k, hk, -, F⟩ := within_at k0 12 hk0 (by omega) (by omega) wk
  refine F.mono ?_
  rintro e wk2 ⟨rfl, rfl⟩
  clear F hk0
  obtain ⟨n, hn⟩ : ∃ n : Nat, n = 2 + k := ⟨_, rfl⟩
  have hk1 : 2 + (k : Int) = (n : Int) := by omega
  have hn2 : 2 ≤ n ∧ n ≤ 13 := by omega
  clear hn hk
  go_wp2_with fail
  refine (new_any 100 (by omega) (by omega) wk).mono ?_
  rintro e w1 ⟨rfl, hw1⟩
  have e1 : w1 = wk.alloc (.cells #[.slice none 0 0, .int .i64 ((100 : Nat) : Int)] 49) := hw1
  have H1 := Lib.hid (HL.new HBK.out 100 (by omega))
  rw [← e1] at H1
  clear hw1 e1
  obtain ⟨b, hb⟩ : ∃ b, b = wk.heap.size := ⟨_, rfl⟩
  rw [← hb] at H1 ⊢
  clear hb HBK
  go_wp2_with fail
  have H0 : Hid (Lp1 w b n (.slice none 0 0) (.int .i64 0) w1) := ⟨0, [], none, by omega, rfl, rfl, by intro o h; simp at h, rfl, H1.out, World.ownsRow_nil _ _ _ _, fun k hk => by simp [Value.ownBlock] at hk⟩
  clear H1 hk1
  go_loopw [9, 10] (fun vv iv wr => Lp1 w b n vv iv wr) (fun _ iv _ => n - (intOf iv).toNat)
  case atStart => exact H0.out
  case round =>
    clear H0
    obtain ⟨i, os, G, hi, hol, rfl, hall, htot, hl, how, hbs⟩ := hrel
    have HH := Lib.hid hl
    have HO := Lib.hid how
    have HBS := Lib.hid hbs
    have HALL := Lib.hid hall
    have HTOT := Lib.hid htot
    have HOL := Lib.hid hol
    clear hl how hbs hall htot hol
    by_cases hin : i < n
    · have q1 : decide ((i : Int) < (n : Int)) = true := decide_eq_true (by omega)
      have hW2 : Below wr.heap.size wr (wr.alloc (.cells #[.int .i64 (i : Nat)] 3)) := (Below.refl _ _).alloc (Nat.le_refl _) _
      have H2 := Lib.hid (HH.out.below hW2)
      have HO2 := Lib.hid (own_below HO.out hW2)
      have hsT : total os + 2 ≤ 100 := by have h1 := HTOT.out; have h2 := HOL.out; omega
      have F22 := Lib.hid (alloc_yes H2.out.hp 4 [] [(i : Int)] (.slice none 0 0) (.slice (some ⟨wr.heap.size, 0, none⟩) 1 1) (nil_isS _) (one_isS wr (i : Int)) (apart_nil _ _) (HH.out.apart (n := 1) (c := 1)) (by intro p hp; cases hp) (by rw [fitF]; simp) rfl (by simpa [sizeF] using hsT))
      have h4 : (newO 4 [] [(i : Int)]).tag = 4 ∧ (newO 4 [] [(i : Int)]).body.length = 1 ∧ total (os ++ [newO 4 [] [(i : Int)]]) = total os + 2 := ⟨rfl, by simp [newO], by rw [total_append]; simp only [total, newO_size]; simp⟩
      generalize newO 4 [] [(i : Int)] = o4 at F22 h4
      have HO4 := Lib.hid h4
      obtain ⟨U, hU⟩ : ∃ U, U = total os := ⟨_, rfl⟩
      have HU := Lib.hid hU
      rw [← hU] at F22
      clear h4 hU hsT hW2
      go_wp2_with fail
      refine F22.out.mono ?_
      rintro e w4 hr
      obtain ⟨rfl, G4, h4⟩ := H2.out.turn hr
      obtain ⟨-, G5, h5, hfr, hgg⟩ := hr
      have hb5 : Beside u9 b G5 := HBS.out.turn HO2.out hgg
      have ho5 := own_fr HO2.out hfr (fun k hk h => by rcases h with h | h; exact (HBS.out k hk).1 h; exact (HBS.out k hk).2 h)
      have h6 : HL w w4 b G5 (os ++ [o4]) 100 := ⟨h5, h4.bel, h4.hb, fun k hk => by
        rcases hgg k hk with h | h
        · exact HH.out.hg k h
        · have := H2.out.bel.size; omega⟩
      have H6 := Lib.hid h6
      have B6 := Lib.hid hb5
      have O6 := Lib.hid ho5
      clear F22 h4 G4 h5 hfr hgg hb5 ho5 h6 H2 HO2 HO HH HBS
      simp only [pair2]
      have HOA := Lib.hid (O6.out.alloc (.cells #[.int .i64 (U : Nat)] 3))
      have HSR := Lib.hid (srcA_one (d := .int .i64 (U : Nat)) (T := 3) (alloc_at w4 (.cells #[.int .i64 (U : Nat)] 3)) rfl 1)
      have hsA : w.heap.size ≤ (w4.alloc (.cells #[.int .i64 (U : Nat)] 3)).heap.size := by have := H6.out.bel.size; simp; omega
      have hol9 : i + 1 ≤ 1000000000 := by omega
      go_wp2_with (refine wpList_wantedR (by rfl) fun K hK => ?_; refine wp_appI (Operand.tmp 39) (Operand.tmp 41) rfl w.heap.size u9 i _ rfl HOA.out (.slice (some ⟨w4.heap.size, 0, none⟩) 1 1) rfl 1 _ HSR.out hol9 hsA ?_; intro v' w9 hown9 hg9 hv9; have HST := Lib.hid (row_step H6.out B6.out O6.out hg9 hv9); have HO9 := Lib.hid hown9; clear hown9 hg9 hv9 HOA HSR; refine hK _ _ ?_; clear hK K)
      go_roundw
      case rel =>
        refine ⟨i + 1, os ++ [o4], G5, by omega, by rw [List.length_append, HOL.out]; rfl, by go_num, ?_, ?_, HST.out.1, ?_, HST.out.2⟩
        · intro o ho
          rcases List.mem_append.1 ho with h | h
          · exact HALL.out o h
          · rw [List.mem_singleton.1 h]; exact ⟨HO4.out.1, HO4.out.2.1⟩
        · rw [HO4.out.2.2, HTOT.out, List.length_append]; simp; omega
        · rw [adrs_snoc, List.map_append, HU.out.symm]
          exact HO9.out
      case measure => simp [intOf]; omega
    · obtain rfl : i = n := by omega
      have q1 : decide ((i : Int) < (i : Int)) = false := decide_eq_false (by omega)
      obtain ⟨g, c, hsl, hgB, hrg⟩ := RG.of_own HO.out (by omega)
      subst hsl
      have hst : St w wr b g G os (adrs os) := ⟨HH.out, hrg, (HBS.out g rfl).1, (HBS.out g rfl).2, hgB⟩
      have hch := ch_base HALL.out HTOT.out
      have hll : (adrs os).length = i := by rw [adrs_len, HOL.out]
      have H0 : Hid (Lp2 w b g i os (.int .i64 0) wr) := ⟨0, adrs os, G, by omega, rfl, hll, hch, hst⟩
      clear HO HH HBS HALL HTOT HOL hst hch hll hrg hgB
      go_wp2_with fail
      go_loopw [13] (fun iv wr => Lp2 w b g i os iv wr) (fun iv _ => 30 - (intOf iv).toNat)
      case atStart => exact H0.out
      case round =>
        clear H0 G
        obtain ⟨x, l, G, hx, rfl, hln, hch, hst⟩ := hrel
        have HLN := Lib.hid hln
        have HCH := Lib.hid hch
        have HST := Lib.hid hst
        clear hln hch hst
        by_cases hgo : x < len ∧ x < 30
        · obtain ⟨hil, hi30⟩ := hgo
          have q1 : decide ((x : Int) < (len : Int)) = true := decide_eq_true (by omega)
          have q2 : decide ((x : Int) < 30) = true := decide_eq_true (by omega)
          obtain ⟨y, z, rfl, hc, hz⟩ := (HA.out.below HST.out.1.bel).2 x hil
          have hxb := World.block_lt_of_cell? _ _ hc
          have HC : Hid (∀ w', Below wr.heap.size wr w' → w'.cell? (y.add x) = some (.int .i64 z)) := fun w' hw' => (hw'.cell hxb).trans hc
          clear hc hxb
          have F13 : Hid (∃ j : Nat, j < i ∧ ∀ W, Calls Try.prog 13 #[.int .i64 z, .int .i64 (i : Int)] W fun e w' => e = .returned (.int .i64 (j : Int)) ∧ W = w') := by
            have h3 := Int.emod_nonneg z (show (i : Int) ≠ 0 by omega)
            have h4 := Int.emod_lt_of_pos z (show (0 : Int) < (i : Int) by omega)
            refine ⟨(z % (i : Int)).toNat, by omega, fun W => ?_⟩
            rw [show (((z % (i : Int)).toNat : Nat) : Int) = z % (i : Int) by omega]
            exact within_any z _ W hz.1 hz.2 (by omega) (by omega)
          obtain ⟨r, hr, F⟩ := F13.out
          have HF := Lib.hid F
          clear F F13 hz
          obtain ⟨p, hp⟩ : ∃ p, p = x % i := ⟨_, rfl⟩
          have HRM : Hid ((x : Int).tmod (i : Int) = (p : Int)) := by show _ = _; rw [hp]; exact (Int.ofNat_tmod x i).symm
          have hpi : p < i := by rw [hp]; exact Nat.mod_lt _ (by omega)
          have hi0 : (i : Int) ≠ 0 := by omega
          clear hp
          go_upto_region 16 with fail
          refine wp_region_noPanic ?_
          refine wp_region_held_drew (S := Below wr.heap.size wr) (by kernel_rfl) ((Below.refl _ _).drew) (fun hHeld => ?_)
          generalize wr.drew = X at hHeld ⊢
          have HBX := Lib.hid hHeld
          refine wpAnyH_take (i := 0) (v := ?v0) rfl (by kernel_rfl) (by kernel_rfl) (by kernel_rfl) (fun _ _ _ h => h) (Or.inl ⟨rfl, fun w' hw' => ?h0⟩) hHeld ?r0
          case h0 =>
            go_simp
            try with_reducible rfl
          simp only [List.getElem_toArray, List.getElem_cons_succ, List.getElem_cons_zero, Act.put, List.setIfInBounds_toArray, List.set_cons_zero, List.set_cons_succ]
          refine wpAnyH_take (i := 1) (v := ?v1) rfl (by kernel_rfl) (by kernel_rfl) (by kernel_rfl) (fun _ _ _ h => h) (Or.inl ⟨rfl, fun w' hw' => ?h1⟩) hHeld ?r1
          case h1 =>
            go_simp
            try with_reducible rfl
          simp only [List.getElem_toArray, List.getElem_cons_succ, List.getElem_cons_zero, Act.put, List.setIfInBounds_toArray, List.set_cons_zero, List.set_cons_succ]
          refine wpAnyH_take (i := 2) (v := Value.int .i64 (p : Int)) rfl (by kernel_rfl) (by kernel_rfl) (by kernel_rfl) (fun _ _ _ h => h) (Or.inl ⟨rfl, fun w' hw' => ?_⟩) hHeld ?_
          · (have d0 := HRM.out; go_simp; try omega)
          simp only [List.getElem_toArray, List.getElem_cons_succ, List.getElem_cons_zero, Act.put, List.setIfInBounds_toArray, List.set_cons_zero, List.set_cons_succ]
          refine wpAnyH_take (i := 3) (v := ?v3) rfl (by kernel_rfl) (by kernel_rfl) (by kernel_rfl) (fun _ _ _ h => h) (Or.inl ⟨rfl, fun w' hw' => ?h3⟩) hHeld ?r3
          case h3 =>
            go_simp
            try with_reducible rfl
          simp only [List.getElem_toArray, List.getElem_cons_succ, List.getElem_cons_zero, Act.put, List.setIfInBounds_toArray, List.set_cons_zero, List.set_cons_succ]
          refine wpAnyH_take (i := 4) (v := ?v4) rfl (by kernel_rfl) (by kernel_rfl) (by kernel_rfl) (fun _ _ _ h => h) (Or.inl ⟨rfl, fun w' hw' => ?h4⟩) hHeld ?r4
          case h4 =>
            go_simp
            try with_reducible rfl
          simp only [List.getElem_toArray, List.getElem_cons_succ, List.getElem_cons_zero, Act.put, List.setIfInBounds_toArray, List.set_cons_zero, List.set_cons_succ]
          refine wpAnyH_take (i := 5) (v := ?v5) rfl (by kernel_rfl) (by kernel_rfl) (by kernel_rfl) (fun _ _ _ h => h) (Or.inl ⟨rfl, fun w' hw' => ?h5⟩) hHeld ?r5
          case h5 =>
            go_simp
            try with_reducible rfl
          simp only [List.getElem_toArray, List.getElem_cons_succ, List.getElem_cons_zero, Act.put, List.setIfInBounds_toArray, List.set_cons_zero, List.set_cons_succ]
          refine wpAnyH_take (i := 6) (v := ?v6) rfl (by kernel_rfl) (by kernel_rfl) (by kernel_rfl) (fun _ _ _ h => h) (Or.inl ⟨rfl, fun w' hw' => ?h6⟩) hHeld ?r6
          case h6 =>
            (have d0 := HC.out w' hw'; go_simp)
            try with_reducible rfl
          simp only [List.getElem_toArray, List.getElem_cons_succ, List.getElem_cons_zero, Act.put, List.setIfInBounds_toArray, List.set_cons_zero, List.set_cons_succ]
          refine wpAnyH_take (i := 7) (v := ?v7) rfl (by kernel_rfl) (by kernel_rfl) (by kernel_rfl) (fun _ _ _ h => h) (Or.inl ⟨rfl, fun w' hw' => ?h7⟩) hHeld ?r7
          case h7 =>
            go_simp
            try with_reducible rfl
          simp only [List.getElem_toArray, List.getElem_cons_succ, List.getElem_cons_zero, Act.put, List.setIfInBounds_toArray, List.set_cons_zero, List.set_cons_succ]
          refine wpAnyH_ready (rs := [8]) (by kernel_rfl) (by simp) ?_
          refine (AllReadyH.cons rfl (fun K hK => ?_) AllReadyH.nil)
          go_simp
          refine (HF.out X).mono ?_
          rintro e w9 ⟨rfl, rfl⟩
          refine hK.out _ _ hHeld (fun hHeld => ?_)
          clear hK K
          try simp only [List.getElem_toArray, List.getElem_cons_succ, List.getElem_cons_zero, Act.put, List.setIfInBounds_toArray, List.set_cons_zero, List.set_cons_succ]
          refine wpAnyH_take (i := 9) (v := ?v8) rfl (by kernel_rfl) (by kernel_rfl) (by kernel_rfl) (fun _ _ _ h => h) (Or.inl ⟨rfl, fun w' hw' => ?h8⟩) hHeld ?r8
          case h8 =>
            go_simp
            try with_reducible rfl
          simp only [List.getElem_toArray, List.getElem_cons_succ, List.getElem_cons_zero, Act.put, List.setIfInBounds_toArray, List.set_cons_zero, List.set_cons_succ]
          refine wpAnyH_take (i := 10) (v := ?v9) rfl (by kernel_rfl) (by kernel_rfl) (by kernel_rfl) (fun _ _ _ h => h) (Or.inl ⟨rfl, fun w' hw' => ?h9⟩) hHeld ?r9
          case h9 =>
            go_simp
            try with_reducible rfl
          simp only [List.getElem_toArray, List.getElem_cons_succ, List.getElem_cons_zero, Act.put, List.setIfInBounds_toArray, List.set_cons_zero, List.set_cons_succ]
          refine wpAnyH_done (by kernel_rfl) ?_ _
          refine NoPanic.normal ?_
          clear hHeld
          have HS := Lib.hid (HST.out.below HBX.out)
          clear HC HRM HF HST HBX hi0
          obtain ⟨lp, hlp⟩ : ∃ lp, lp = l.getD p 0 := ⟨_, rfl⟩
          obtain ⟨lr, hlr⟩ : ∃ lr, lr = l.getD r 0 := ⟨_, rfl⟩
          have HC : Hid (∀ W, Below X.heap.size X W → W.cell? ⟨g, p, none⟩ = some (.int .i64 lp) ∧ W.cell? ⟨g, r, none⟩ = some (.int .i64 lr)) := fun W hb => by
            have h := HS.out.below hb
            have hln := HLN.out
            rw [hlp, hlr]
            exact ⟨h.cellD p (by omega), h.cellD r (by omega)⟩
          have HSW : Hid (∀ W, St w W b g G os l → Lp2 w b g i os (.int .i64 ((x : Int) + 1)) ((W.setCell ⟨g, p, none⟩ (.int .i64 lr)).setCell ⟨g, r, none⟩ (.int .i64 lp))) := fun W h => by
            have hln := HLN.out
            refine ⟨x + 1, (l.set p lr).set r lp, G, by omega, by go_num, by simp [hln], ?_, (h.put p lr).put r lp⟩
            rw [hlp, hlr]
            exact ch_swapD HCH.out (by omega) (by omega)
          have HP1 : Hid (∀ W, St w W b g G os l → (∃ v, W.cell? ⟨g, p, none⟩ = some v) ∧ W.frozen? ⟨g, p, none⟩ = false ∧ (∃ v, (W.setCell ⟨g, p, none⟩ (.int .i64 lr)).cell? ⟨g, r, none⟩ = some v) ∧ (W.setCell ⟨g, p, none⟩ (.int .i64 lr)).frozen? ⟨g, r, none⟩ = false) := fun W h => by
            have hln := HLN.out
            exact ⟨⟨_, h.cellD p (by omega)⟩, h.2.1.free p, ⟨_, (h.put p lr).cellD r (by simp; omega)⟩, (h.put p lr).2.1.free r⟩
          clear hlp hlr
          go_upto_region 17 with fail
          refine wp_region_noPanic ?_
          have hbx := (Below.refl X.heap.size X).drew
          refine wp_region_late (S := fun W => W.cell? ⟨g, p, none⟩ = some (.int .i64 lp) ∧ W.cell? ⟨g, r, none⟩ = some (.int .i64 lr)) (fun i => i == 13) (by kernel_rfl) (HC.out _ hbx) (fun hHeld => ?_)
          generalize X.drew = Y at hHeld hbx ⊢
          have HS2 := Lib.hid (HS.out.below hbx)
          clear hbx HS HC
          refine wpAnyL_take (B := [12, 13, 14, 15]) (i := 0) (v := ?v11) rfl (by kernel_rfl) (by kernel_rfl) (by kernel_rfl) (by kernel_rfl) (fun _ _ _ h => h) (Or.inl ⟨rfl, fun w' hw' => ?h11⟩) hHeld ?r11
          case h11 =>
            go_simp
            try with_reducible rfl
          simp only [List.getElem_toArray, List.getElem_cons_succ, List.getElem_cons_zero, Act.put, List.setIfInBounds_toArray, List.set_cons_zero, List.set_cons_succ]
          refine wpAnyL_take (B := [12, 13, 14, 15]) (i := 1) (v := ?v13) rfl (by kernel_rfl) (by kernel_rfl) (by kernel_rfl) (by kernel_rfl) (fun _ _ _ h => h) (Or.inl ⟨rfl, fun w' hw' => ?h13⟩) hHeld ?r13
          case h13 =>
            go_simp
            try with_reducible rfl
          simp only [List.getElem_toArray, List.getElem_cons_succ, List.getElem_cons_zero, Act.put, List.setIfInBounds_toArray, List.set_cons_zero, List.set_cons_succ]
          refine wpAnyL_take (B := [6, 7, 12, 13, 14, 15]) (i := 4) (v := ?v15) rfl (by kernel_rfl) (by kernel_rfl) (by kernel_rfl) (by kernel_rfl) (fun _ _ _ h => h) (Or.inl ⟨rfl, fun w' hw' => ?h15⟩) hHeld ?r15
          case h15 =>
            go_simp
            try with_reducible rfl
          simp only [List.getElem_toArray, List.getElem_cons_succ, List.getElem_cons_zero, Act.put, List.setIfInBounds_toArray, List.set_cons_zero, List.set_cons_succ]
          refine wpAnyL_take (B := [6, 7, 12, 13, 14, 15]) (i := 5) (v := ?v17) rfl (by kernel_rfl) (by kernel_rfl) (by kernel_rfl) (by kernel_rfl) (fun _ _ _ h => h) (Or.inl ⟨rfl, fun w' hw' => ?h17⟩) hHeld ?r17
          case h17 =>
            go_simp
            try with_reducible rfl
          simp only [List.getElem_toArray, List.getElem_cons_succ, List.getElem_cons_zero, Act.put, List.setIfInBounds_toArray, List.set_cons_zero, List.set_cons_succ]
          refine wpAnyL_take (B := [7, 12, 13, 14, 15]) (i := 6) (v := ?v19) rfl (by kernel_rfl) (by kernel_rfl) (by kernel_rfl) (by kernel_rfl) (fun _ _ _ h => h) (Or.inl ⟨rfl, fun w' hw' => ?h19⟩) hHeld ?r19
          case h19 =>
            go_simp
            try with_reducible rfl
          simp only [List.getElem_toArray, List.getElem_cons_succ, List.getElem_cons_zero, Act.put, List.setIfInBounds_toArray, List.set_cons_zero, List.set_cons_succ]
          refine wpAnyL_take (B := [12, 13, 14, 15]) (i := 7) (v := ?v21) rfl (by kernel_rfl) (by kernel_rfl) (by kernel_rfl) (by kernel_rfl) (fun _ _ _ h => h) (Or.inl ⟨rfl, fun w' hw' => ?h21⟩) hHeld ?r21
          case h21 =>
            (obtain ⟨_, d0⟩ := hw'; go_simp)
            try with_reducible rfl
          simp only [List.getElem_toArray, List.getElem_cons_succ, List.getElem_cons_zero, Act.put, List.setIfInBounds_toArray, List.set_cons_zero, List.set_cons_succ]
          refine wpAnyL_take (B := [10, 11, 12, 13, 14, 15]) (i := 8) (v := ?v23) rfl (by kernel_rfl) (by kernel_rfl) (by kernel_rfl) (by kernel_rfl) (fun _ _ _ h => h) (Or.inl ⟨rfl, fun w' hw' => ?h23⟩) hHeld ?r23
          case h23 =>
            go_simp
            try with_reducible rfl
          simp only [List.getElem_toArray, List.getElem_cons_succ, List.getElem_cons_zero, Act.put, List.setIfInBounds_toArray, List.set_cons_zero, List.set_cons_succ]
          refine wpAnyL_take (B := [10, 11, 12, 13, 14, 15]) (i := 9) (v := ?v25) rfl (by kernel_rfl) (by kernel_rfl) (by kernel_rfl) (by kernel_rfl) (fun _ _ _ h => h) (Or.inl ⟨rfl, fun w' hw' => ?h25⟩) hHeld ?r25
          case h25 =>
            go_simp
            try with_reducible rfl
          simp only [List.getElem_toArray, List.getElem_cons_succ, List.getElem_cons_zero, Act.put, List.setIfInBounds_toArray, List.set_cons_zero, List.set_cons_succ]
          refine wpAnyL_take (B := [11, 12, 13, 14, 15]) (i := 10) (v := ?v27) rfl (by kernel_rfl) (by kernel_rfl) (by kernel_rfl) (by kernel_rfl) (fun _ _ _ h => h) (Or.inl ⟨rfl, fun w' hw' => ?h27⟩) hHeld ?r27
          case h27 =>
            go_simp
            try with_reducible rfl
          simp only [List.getElem_toArray, List.getElem_cons_succ, List.getElem_cons_zero, Act.put, List.setIfInBounds_toArray, List.set_cons_zero, List.set_cons_succ]
          refine wpAnyL_take (B := [12, 13, 14, 15]) (i := 11) (v := ?v29) rfl (by kernel_rfl) (by kernel_rfl) (by kernel_rfl) (by kernel_rfl) (fun _ _ _ h => h) (Or.inl ⟨rfl, fun w' hw' => ?h29⟩) hHeld ?r29
          case h29 =>
            (obtain ⟨d0, _⟩ := hw'; go_simp)
            try with_reducible rfl
          simp only [List.getElem_toArray, List.getElem_cons_succ, List.getElem_cons_zero, Act.put, List.setIfInBounds_toArray, List.set_cons_zero, List.set_cons_succ]
          refine wpAnyL_take (B := [13, 14, 15]) (i := 12) (v := ?v31) rfl (by kernel_rfl) (by kernel_rfl) (by kernel_rfl) (by kernel_rfl) (fun _ _ _ h => h) (Or.inl ⟨rfl, fun w' hw' => ?h31⟩) hHeld ?r31
          case h31 =>
            go_simp
            try with_reducible rfl
          simp only [List.getElem_toArray, List.getElem_cons_succ, List.getElem_cons_zero, Act.put, List.setIfInBounds_toArray, List.set_cons_zero, List.set_cons_succ]
          refine wpAnyL_ready (rs := [2, 3, 13]) (by kernel_rfl) (by simp) ?_
          refine (AllL.cons rfl rfl (fun K hK => ?_) (AllL.cons rfl rfl (fun K hK => ?_) (AllL.last (S2 := fun _ => True) rfl rfl (fun K hK => ?_) AllL.nil)))
          · skip
            go_simp
            refine hK.out _ _ hHeld (fun hHeld => ?_)
            clear hK K
            try simp only [List.getElem_toArray, List.getElem_cons_succ, List.getElem_cons_zero, Act.put, List.setIfInBounds_toArray, List.set_cons_zero, List.set_cons_succ]
            refine wpAnyL_ready (rs := [3, 13]) (by kernel_rfl) (by simp) ?_
            refine (AllL.cons rfl rfl (fun K hK => ?_) (AllL.last (S2 := fun _ => True) rfl rfl (fun K hK => ?_) AllL.nil))
            · skip
              go_simp
              refine hK.out _ _ hHeld (fun hHeld => ?_)
              clear hK K
              try simp only [List.getElem_toArray, List.getElem_cons_succ, List.getElem_cons_zero, Act.put, List.setIfInBounds_toArray, List.set_cons_zero, List.set_cons_succ]
              refine wpAnyL_ready (rs := [13]) (by kernel_rfl) (by simp) ?_
              refine (AllL.last (S2 := fun _ => True) rfl rfl (fun K hK => ?_) AllL.nil)
              obtain ⟨⟨v0, c0⟩, f0, -, -⟩ := HP1.out Y HS2.out
              go_simp
              refine hK.out _ _ trivial (fun hHeld => ?_)
              clear c0 f0
              clear hK K
              try simp only [List.getElem_toArray, List.getElem_cons_succ, List.getElem_cons_zero, Act.put, List.setIfInBounds_toArray, List.set_cons_zero, List.set_cons_succ]
              refine wpAnyH_take (i := 14) (v := ?v32) rfl (by kernel_rfl) (by kernel_rfl) (by kernel_rfl) (fun _ _ _ h => h) (Or.inl ⟨rfl, fun w' hw' => ?h32⟩) hHeld ?r32
              case h32 =>
                go_simp
                try with_reducible rfl
              simp only [List.getElem_toArray, List.getElem_cons_succ, List.getElem_cons_zero, Act.put, List.setIfInBounds_toArray, List.set_cons_zero, List.set_cons_succ]
              refine wpAnyH_ready (rs := [15]) (by kernel_rfl) (by simp) ?_
              refine (AllReadyH.cons rfl (fun K hK => ?_) AllReadyH.nil)
              obtain ⟨-, -, ⟨v1, c1⟩, f1⟩ := HP1.out Y HS2.out
              go_simp
              refine hK.out _ _ trivial (fun hHeld => ?_)
              clear c1 f1
              clear hK K
              try simp only [List.getElem_toArray, List.getElem_cons_succ, List.getElem_cons_zero, Act.put, List.setIfInBounds_toArray, List.set_cons_zero, List.set_cons_succ]
              refine wpAnyH_done (by kernel_rfl) ?_ _
              refine NoPanic.normal ?_
              clear hHeld
              have HR := Lib.hid (HSW.out Y HS2.out)
              clear HSW HP1 HS2
              go_wp2_with fail
              go_roundw
              case rel => exact HR.out
              case measure => simp [intOf]; omega
            · skip
              obtain ⟨⟨v0, c0⟩, f0, -, -⟩ := HP1.out Y HS2.out
              go_simp
              refine hK.out _ _ trivial (fun hHeld => ?_)
              clear c0 f0
              clear hK K
              try simp only [List.getElem_toArray, List.getElem_cons_succ, List.getElem_cons_zero, Act.put, List.setIfInBounds_toArray, List.set_cons_zero, List.set_cons_succ]
              refine wpAnyH_take (i := 3) (v := ?v33) rfl (by kernel_rfl) (by kernel_rfl) (by kernel_rfl) (fun _ _ _ h => h) (Or.inl ⟨rfl, fun w' hw' => ?h33⟩) hHeld ?r33
              case h33 =>
                go_simp
                try with_reducible rfl
              simp only [List.getElem_toArray, List.getElem_cons_succ, List.getElem_cons_zero, Act.put, List.setIfInBounds_toArray, List.set_cons_zero, List.set_cons_succ]
              refine wpAnyH_take (i := 14) (v := ?v34) rfl (by kernel_rfl) (by kernel_rfl) (by kernel_rfl) (fun _ _ _ h => h) (Or.inl ⟨rfl, fun w' hw' => ?h34⟩) hHeld ?r34
              case h34 =>
                go_simp
                try with_reducible rfl
              simp only [List.getElem_toArray, List.getElem_cons_succ, List.getElem_cons_zero, Act.put, List.setIfInBounds_toArray, List.set_cons_zero, List.set_cons_succ]
              refine wpAnyH_ready (rs := [15]) (by kernel_rfl) (by simp) ?_
              refine (AllReadyH.cons rfl (fun K hK => ?_) AllReadyH.nil)
              obtain ⟨-, -, ⟨v1, c1⟩, f1⟩ := HP1.out Y HS2.out
              go_simp
              refine hK.out _ _ trivial (fun hHeld => ?_)
              clear c1 f1
              clear hK K
              try simp only [List.getElem_toArray, List.getElem_cons_succ, List.getElem_cons_zero, Act.put, List.setIfInBounds_toArray, List.set_cons_zero, List.set_cons_succ]
              refine wpAnyH_done (by kernel_rfl) ?_ _
              refine NoPanic.normal ?_
              clear hHeld
              have HR := Lib.hid (HSW.out Y HS2.out)
              clear HSW HP1 HS2
              go_wp2_with fail
              go_roundw
              case rel => exact HR.out
              case measure => simp [intOf]; omega
          · skip
            go_simp
            refine hK.out _ _ hHeld (fun hHeld => ?_)
            clear hK K
            try simp only [List.getElem_toArray, List.getElem_cons_succ, List.getElem_cons_zero, Act.put, List.setIfInBounds_toArray, List.set_cons_zero, List.set_cons_succ]
            refine wpAnyL_ready (rs := [2, 13]) (by kernel_rfl) (by simp) ?_
            refine (AllL.cons rfl rfl (fun K hK => ?_) (AllL.last (S2 := fun _ => True) rfl rfl (fun K hK => ?_) AllL.nil))
            · skip
              go_simp
              refine hK.out _ _ hHeld (fun hHeld => ?_)
              clear hK K
              try simp only [List.getElem_toArray, List.getElem_cons_succ, List.getElem_cons_zero, Act.put, List.setIfInBounds_toArray, List.set_cons_zero, List.set_cons_succ]
              refine wpAnyL_ready (rs := [13]) (by kernel_rfl) (by simp) ?_
              refine (AllL.last (S2 := fun _ => True) rfl rfl (fun K hK => ?_) AllL.nil)
              obtain ⟨⟨v0, c0⟩, f0, -, -⟩ := HP1.out Y HS2.out
              go_simp
              refine hK.out _ _ trivial (fun hHeld => ?_)
              clear c0 f0
              clear hK K
              try simp only [List.getElem_toArray, List.getElem_cons_succ, List.getElem_cons_zero, Act.put, List.setIfInBounds_toArray, List.set_cons_zero, List.set_cons_succ]
              refine wpAnyH_take (i := 14) (v := ?v35) rfl (by kernel_rfl) (by kernel_rfl) (by kernel_rfl) (fun _ _ _ h => h) (Or.inl ⟨rfl, fun w' hw' => ?h35⟩) hHeld ?r35
              case h35 =>
                go_simp
                try with_reducible rfl
              simp only [List.getElem_toArray, List.getElem_cons_succ, List.getElem_cons_zero, Act.put, List.setIfInBounds_toArray, List.set_cons_zero, List.set_cons_succ]
              refine wpAnyH_ready (rs := [15]) (by kernel_rfl) (by simp) ?_
              refine (AllReadyH.cons rfl (fun K hK => ?_) AllReadyH.nil)
              obtain ⟨-, -, ⟨v1, c1⟩, f1⟩ := HP1.out Y HS2.out
              go_simp
              refine hK.out _ _ trivial (fun hHeld => ?_)
              clear c1 f1
              clear hK K
              try simp only [List.getElem_toArray, List.getElem_cons_succ, List.getElem_cons_zero, Act.put, List.setIfInBounds_toArray, List.set_cons_zero, List.set_cons_succ]
              refine wpAnyH_done (by kernel_rfl) ?_ _
              refine NoPanic.normal ?_
              clear hHeld
              have HR := Lib.hid (HSW.out Y HS2.out)
              clear HSW HP1 HS2
              go_wp2_with fail
              go_roundw
              case rel => exact HR.out
              case measure => simp [intOf]; omega
            · skip
              obtain ⟨⟨v0, c0⟩, f0, -, -⟩ := HP1.out Y HS2.out
              go_simp
              refine hK.out _ _ trivial (fun hHeld => ?_)
              clear c0 f0
              clear hK K
              try simp only [List.getElem_toArray, List.getElem_cons_succ, List.getElem_cons_zero, Act.put, List.setIfInBounds_toArray, List.set_cons_zero, List.set_cons_succ]
              refine wpAnyH_take (i := 2) (v := ?v36) rfl (by kernel_rfl) (by kernel_rfl) (by kernel_rfl) (fun _ _ _ h => h) (Or.inl ⟨rfl, fun w' hw' => ?h36⟩) hHeld ?r36
              case h36 =>
                go_simp
                try with_reducible rfl
              simp only [List.getElem_toArray, List.getElem_cons_succ, List.getElem_cons_zero, Act.put, List.setIfInBounds_toArray, List.set_cons_zero, List.set_cons_succ]
              refine wpAnyH_take (i := 14) (v := ?v37) rfl (by kernel_rfl) (by kernel_rfl) (by kernel_rfl) (fun _ _ _ h => h) (Or.inl ⟨rfl, fun w' hw' => ?h37⟩) hHeld ?r37
              case h37 =>
                go_simp
                try with_reducible rfl
              simp only [List.getElem_toArray, List.getElem_cons_succ, List.getElem_cons_zero, Act.put, List.setIfInBounds_toArray, List.set_cons_zero, List.set_cons_succ]
              refine wpAnyH_ready (rs := [15]) (by kernel_rfl) (by simp) ?_
              refine (AllReadyH.cons rfl (fun K hK => ?_) AllReadyH.nil)
              obtain ⟨-, -, ⟨v1, c1⟩, f1⟩ := HP1.out Y HS2.out
              go_simp
              refine hK.out _ _ trivial (fun hHeld => ?_)
              clear c1 f1
              clear hK K
              try simp only [List.getElem_toArray, List.getElem_cons_succ, List.getElem_cons_zero, Act.put, List.setIfInBounds_toArray, List.set_cons_zero, List.set_cons_succ]
              refine wpAnyH_done (by kernel_rfl) ?_ _
              refine NoPanic.normal ?_
              clear hHeld
              have HR := Lib.hid (HSW.out Y HS2.out)
              clear HSW HP1 HS2
              go_wp2_with fail
              go_roundw
              case rel => exact HR.out
              case measure => simp [intOf]; omega
          · skip
            obtain ⟨⟨v0, c0⟩, f0, -, -⟩ := HP1.out Y HS2.out
            go_simp
            refine hK.out _ _ trivial (fun hHeld => ?_)
            clear c0 f0
            clear hK K
            try simp only [List.getElem_toArray, List.getElem_cons_succ, List.getElem_cons_zero, Act.put, List.setIfInBounds_toArray, List.set_cons_zero, List.set_cons_succ]
            refine wpAnyH_take (i := 2) (v := ?v38) rfl (by kernel_rfl) (by kernel_rfl) (by kernel_rfl) (fun _ _ _ h => h) (Or.inl ⟨rfl, fun w' hw' => ?h38⟩) hHeld ?r38
            case h38 =>
              go_simp
              try with_reducible rfl
            simp only [List.getElem_toArray, List.getElem_cons_succ, List.getElem_cons_zero, Act.put, List.setIfInBounds_toArray, List.set_cons_zero, List.set_cons_succ]
            refine wpAnyH_take (i := 3) (v := ?v39) rfl (by kernel_rfl) (by kernel_rfl) (by kernel_rfl) (fun _ _ _ h => h) (Or.inl ⟨rfl, fun w' hw' => ?h39⟩) hHeld ?r39
            case h39 =>
              go_simp
              try with_reducible rfl
            simp only [List.getElem_toArray, List.getElem_cons_succ, List.getElem_cons_zero, Act.put, List.setIfInBounds_toArray, List.set_cons_zero, List.set_cons_succ]
            refine wpAnyH_take (i := 14) (v := ?v40) rfl (by kernel_rfl) (by kernel_rfl) (by kernel_rfl) (fun _ _ _ h => h) (Or.inl ⟨rfl, fun w' hw' => ?h40⟩) hHeld ?r40
            case h40 =>
              go_simp
              try with_reducible rfl
            simp only [List.getElem_toArray, List.getElem_cons_succ, List.getElem_cons_zero, Act.put, List.setIfInBounds_toArray, List.set_cons_zero, List.set_cons_succ]
            refine wpAnyH_ready (rs := [15]) (by kernel_rfl) (by simp) ?_
            refine (AllReadyH.cons rfl (fun K hK => ?_) AllReadyH.nil)
            obtain ⟨-, -, ⟨v1, c1⟩, f1⟩ := HP1.out Y HS2.out
            go_simp
            refine hK.out _ _ trivial (fun hHeld => ?_)
            clear c1 f1
            clear hK K
            try simp only [List.getElem_toArray, List.getElem_cons_succ, List.getElem_cons_zero, Act.put, List.setIfInBounds_toArray, List.set_cons_zero, List.set_cons_succ]
            refine wpAnyH_done (by kernel_rfl) ?_ _
            refine NoPanic.normal ?_
            clear hHeld
            have HR := Lib.hid (HSW.out Y HS2.out)
            clear HSW HP1 HS2
            go_wp2_with fail
            go_roundw
            case rel => exact HR.out
            case measure => simp [intOf]; omega
        · by_cases hil : x < len
          · have q1 : decide ((x : Int) < (len : Int)) = true := decide_eq_true (by omega)
            have q2 : decide ((x : Int) < 30) = false := decide_eq_false (by omega)
            clear hgo
            obtain ⟨m, hm⟩ : ∃ m : Nat, m + 1 = i := ⟨i - 1, by omega⟩
            have H0 : Hid (Lp3 w b g i l (.int .i64 0) wr) := ⟨0, os, G, by omega, rfl, HCH.out, HST.out⟩
            clear HCH HST
            go_wp2_with fail
            go_loopw [16] (fun iv wr => Lp3 w b g i l iv wr) (fun iv _ => i - (intOf iv).toNat)
            case atStart => exact H0.out
            case round =>
              clear H0 G
              obtain ⟨y, os, G, hy, rfl, hch, hst⟩ := hrel
              have HCH := Lib.hid hch
              have HST := Lib.hid hst
              clear hch hst
              by_cases hyi : y + 1 < i
              · have q1 : decide ((y : Int) + 1 < (i : Int)) = true := decide_eq_true (by omega)
                obtain ⟨os', hc', ho'⟩ := ch_over HCH.out HST.out.1.hp (by rw [HLN.out]; omega) (show y < l.length by rw [HLN.out]; omega)
                rw [HLN.out, Nat.mod_eq_of_lt hyi] at ho'
                have HC5 := Lib.hid hc'
                have F29 := Lib.hid ho'
                obtain ⟨z, hz⟩ : ∃ z, z = y + 1 := ⟨_, rfl⟩
                have hzy : (y : Int) + 1 = (z : Int) := by omega
                have hzi : z < i := by omega
                have hyy : y < i := by omega
                rw [← hz] at F29
                have HCE : Hid (∀ (W : World) (os : List Ob), (∃ G, St w W b g G os l) → W.cell? ⟨g, y, none⟩ = some (.int .i64 (l.getD y 0)) ∧ W.cell? ⟨g, z, none⟩ = some (.int .i64 (l.getD z 0))) := fun W _ h => by
                  obtain ⟨G, h⟩ := h
                  have hln := HLN.out
                  exact ⟨h.cellD y (by omega), h.cellD z (by omega)⟩
                generalize l.getD y 0 = ly at F29 HCE
                generalize l.getD z 0 = lz at F29 HCE
                have HZ := Lib.hid hz
                clear hc' ho' hz
                go_upto_region 21 with fail
                refine wp_region_noPanic ?_
                have hbx := (Below.refl wr.heap.size wr).drew
                refine wp_region_held_drew (S := fun W => W.cell? ⟨g, y, none⟩ = some (.int .i64 ly) ∧ W.cell? ⟨g, z, none⟩ = some (.int .i64 lz)) (by kernel_rfl) (HCE.out _ os ⟨G, HST.out.below hbx⟩) (fun hHeld => ?_)
                generalize wr.drew = X at hHeld hbx ⊢
                have HBX := Lib.hid hbx
                clear hbx
                refine wpAnyH_take (i := 0) (v := ?v41) rfl (by kernel_rfl) (by kernel_rfl) (by kernel_rfl) (fun _ _ _ h => h) (Or.inl ⟨rfl, fun w' hw' => ?h41⟩) hHeld ?r41
                case h41 =>
                  go_simp
                  try with_reducible rfl
                simp only [List.getElem_toArray, List.getElem_cons_succ, List.getElem_cons_zero, Act.put, List.setIfInBounds_toArray, List.set_cons_zero, List.set_cons_succ]
                refine wpAnyH_take (i := 1) (v := ?v42) rfl (by kernel_rfl) (by kernel_rfl) (by kernel_rfl) (fun _ _ _ h => h) (Or.inl ⟨rfl, fun w' hw' => ?h42⟩) hHeld ?r42
                case h42 =>
                  go_simp
                  try with_reducible rfl
                simp only [List.getElem_toArray, List.getElem_cons_succ, List.getElem_cons_zero, Act.put, List.setIfInBounds_toArray, List.set_cons_zero, List.set_cons_succ]
                refine wpAnyH_take (i := 2) (v := ?v43) rfl (by kernel_rfl) (by kernel_rfl) (by kernel_rfl) (fun _ _ _ h => h) (Or.inl ⟨rfl, fun w' hw' => ?h43⟩) hHeld ?r43
                case h43 =>
                  go_simp
                  try with_reducible rfl
                simp only [List.getElem_toArray, List.getElem_cons_succ, List.getElem_cons_zero, Act.put, List.setIfInBounds_toArray, List.set_cons_zero, List.set_cons_succ]
                refine wpAnyH_take (i := 3) (v := ?v44) rfl (by kernel_rfl) (by kernel_rfl) (by kernel_rfl) (fun _ _ _ h => h) (Or.inl ⟨rfl, fun w' hw' => ?h44⟩) hHeld ?r44
                case h44 =>
                  go_simp
                  try with_reducible rfl
                simp only [List.getElem_toArray, List.getElem_cons_succ, List.getElem_cons_zero, Act.put, List.setIfInBounds_toArray, List.set_cons_zero, List.set_cons_succ]
                refine wpAnyH_take (i := 4) (v := ?v45) rfl (by kernel_rfl) (by kernel_rfl) (by kernel_rfl) (fun _ _ _ h => h) (Or.inl ⟨rfl, fun w' hw' => ?h45⟩) hHeld ?r45
                case h45 =>
                  (obtain ⟨d0, _⟩ := hw'; go_simp)
                  try with_reducible rfl
                simp only [List.getElem_toArray, List.getElem_cons_succ, List.getElem_cons_zero, Act.put, List.setIfInBounds_toArray, List.set_cons_zero, List.set_cons_succ]
                refine wpAnyH_take (i := 5) (v := ?v46) rfl (by kernel_rfl) (by kernel_rfl) (by kernel_rfl) (fun _ _ _ h => h) (Or.inl ⟨rfl, fun w' hw' => ?h46⟩) hHeld ?r46
                case h46 =>
                  go_simp
                  try with_reducible rfl
                simp only [List.getElem_toArray, List.getElem_cons_succ, List.getElem_cons_zero, Act.put, List.setIfInBounds_toArray, List.set_cons_zero, List.set_cons_succ]
                refine wpAnyH_take (i := 6) (v := ?v47) rfl (by kernel_rfl) (by kernel_rfl) (by kernel_rfl) (fun _ _ _ h => h) (Or.inl ⟨rfl, fun w' hw' => ?h47⟩) hHeld ?r47
                case h47 =>
                  go_simp
                  try with_reducible rfl
                simp only [List.getElem_toArray, List.getElem_cons_succ, List.getElem_cons_zero, Act.put, List.setIfInBounds_toArray, List.set_cons_zero, List.set_cons_succ]
                refine wpAnyH_take (i := 7) (v := Value.int .i64 (z : Int)) rfl (by kernel_rfl) (by kernel_rfl) (by kernel_rfl) (fun _ _ _ h => h) (Or.inl ⟨rfl, fun w' hw' => ?_⟩) hHeld ?_
                · (go_simp; try (rw [IntKind.wrap_i64]; omega))
                simp only [List.getElem_toArray, List.getElem_cons_succ, List.getElem_cons_zero, Act.put, List.setIfInBounds_toArray, List.set_cons_zero, List.set_cons_succ]
                refine wpAnyH_take (i := 8) (v := ?v49) rfl (by kernel_rfl) (by kernel_rfl) (by kernel_rfl) (fun _ _ _ h => h) (Or.inl ⟨rfl, fun w' hw' => ?h49⟩) hHeld ?r49
                case h49 =>
                  go_simp
                  try with_reducible rfl
                simp only [List.getElem_toArray, List.getElem_cons_succ, List.getElem_cons_zero, Act.put, List.setIfInBounds_toArray, List.set_cons_zero, List.set_cons_succ]
                refine wpAnyH_take (i := 9) (v := ?v50) rfl (by kernel_rfl) (by kernel_rfl) (by kernel_rfl) (fun _ _ _ h => h) (Or.inl ⟨rfl, fun w' hw' => ?h50⟩) hHeld ?r50
                case h50 =>
                  (obtain ⟨_, d0⟩ := hw'; go_simp)
                  try with_reducible rfl
                simp only [List.getElem_toArray, List.getElem_cons_succ, List.getElem_cons_zero, Act.put, List.setIfInBounds_toArray, List.set_cons_zero, List.set_cons_succ]
                refine wpAnyH_ready (rs := [10]) (by kernel_rfl) (by simp) ?_
                refine (AllReadyH.cons rfl (fun K hK => ?_) AllReadyH.nil)
                go_simp
                refine (F29.out X HBX.out).mono ?_
                rintro e w5 hr
                obtain ⟨rfl, h5⟩ := (HST.out.below HBX.out).turn hr
                have H5 := Lib.hid h5
                have hS5 := HCE.out w5 _ h5
                clear hr h5 F29
                refine hK.out _ _ hS5 (fun hHeld => ?_)
                clear hK K
                try simp only [List.getElem_toArray, List.getElem_cons_succ, List.getElem_cons_zero, Act.put, List.setIfInBounds_toArray, List.set_cons_zero, List.set_cons_succ]
                refine wpAnyH_take (i := 11) (v := ?v51) rfl (by kernel_rfl) (by kernel_rfl) (by kernel_rfl) (fun _ _ _ h => h) (Or.inl ⟨rfl, fun w' hw' => ?h51⟩) hHeld ?r51
                case h51 =>
                  go_simp
                  try with_reducible rfl
                simp only [List.getElem_toArray, List.getElem_cons_succ, List.getElem_cons_zero, Act.put, List.setIfInBounds_toArray, List.set_cons_zero, List.set_cons_succ]
                refine wpAnyH_done (by kernel_rfl) ?_ _
                refine NoPanic.normal ?_
                clear hHeld
                have HR : Hid (Lp3 w b g i l (.int .i64 (z : Int)) w5) := by
                  obtain ⟨G5, h5⟩ := H5.out
                  exact ⟨z, os', G5, by omega, rfl, by rw [HZ.out]; exact HC5.out, h5⟩
                clear HCE H5 HC5
                go_wp2_with fail
                go_roundw
                case rel => exact HR.out
                case measure => simp [intOf]; omega
              · obtain rfl : y = m := by omega
                have q1 : decide ((y : Int) + 1 < (i : Int)) = false := decide_eq_false (by omega)
                have hnm : (i : Int) - 1 = (y : Int) := by omega
                have hyy : y < i := by omega
                have h0i : 0 < i := by omega
                cases ring with
                | false =>
                  go_upto_region 23 with fail
                  refine wp_region_noPanic ?_
                  have hbx := (Below.refl wr.heap.size wr).drew
                  refine wp_region_held_drew (S := fun _ => True) (by kernel_rfl) trivial (fun hHeld => ?_)
                  generalize wr.drew = w5 at hHeld hbx ⊢
                  have HP5 := Lib.hid hbx
                  have HST5 := Lib.hid (HST.out.below hbx)
                  have HCH5 := HCH
                  clear hbx HST HCH
                  refine wpAnyH_take (i := 0) (v := ?v52) rfl (by kernel_rfl) (by kernel_rfl) (by kernel_rfl) (fun _ _ _ h => h) (Or.inl ⟨rfl, fun w' hw' => ?h52⟩) hHeld ?r52
                  case h52 =>
                    go_simp
                    try with_reducible rfl
                  simp only [List.getElem_toArray, List.getElem_cons_succ, List.getElem_cons_zero, Act.put, List.setIfInBounds_toArray, List.set_cons_zero, List.set_cons_succ]
                  refine wpAnyH_take (i := 1) (v := ?v53) rfl (by kernel_rfl) (by kernel_rfl) (by kernel_rfl) (fun _ _ _ h => h) (Or.inl ⟨rfl, fun w' hw' => ?h53⟩) hHeld ?r53
                  case h53 =>
                    go_simp
                    try with_reducible rfl
                  simp only [List.getElem_toArray, List.getElem_cons_succ, List.getElem_cons_zero, Act.put, List.setIfInBounds_toArray, List.set_cons_zero, List.set_cons_succ]
                  refine wpAnyH_take (i := 2) (v := undef) rfl (by kernel_rfl) (by kernel_rfl) (by kernel_rfl) (fun _ _ _ h => h) (Or.inr ⟨rfl, rfl⟩) hHeld ?_
                  simp only [List.getElem_toArray, List.getElem_cons_succ, List.getElem_cons_zero, Act.put, List.setIfInBounds_toArray, List.set_cons_zero, List.set_cons_succ]
                  refine wpAnyH_take (i := 3) (v := undef) rfl (by kernel_rfl) (by kernel_rfl) (by kernel_rfl) (fun _ _ _ h => h) (Or.inr ⟨rfl, rfl⟩) hHeld ?_
                  simp only [List.getElem_toArray, List.getElem_cons_succ, List.getElem_cons_zero, Act.put, List.setIfInBounds_toArray, List.set_cons_zero, List.set_cons_succ]
                  refine wpAnyH_take (i := 4) (v := undef) rfl (by kernel_rfl) (by kernel_rfl) (by kernel_rfl) (fun _ _ _ h => h) (Or.inr ⟨rfl, rfl⟩) hHeld ?_
                  simp only [List.getElem_toArray, List.getElem_cons_succ, List.getElem_cons_zero, Act.put, List.setIfInBounds_toArray, List.set_cons_zero, List.set_cons_succ]
                  refine wpAnyH_take (i := 5) (v := undef) rfl (by kernel_rfl) (by kernel_rfl) (by kernel_rfl) (fun _ _ _ h => h) (Or.inr ⟨rfl, rfl⟩) hHeld ?_
                  simp only [List.getElem_toArray, List.getElem_cons_succ, List.getElem_cons_zero, Act.put, List.setIfInBounds_toArray, List.set_cons_zero, List.set_cons_succ]
                  refine wpAnyH_take (i := 6) (v := undef) rfl (by kernel_rfl) (by kernel_rfl) (by kernel_rfl) (fun _ _ _ h => h) (Or.inr ⟨rfl, rfl⟩) hHeld ?_
                  simp only [List.getElem_toArray, List.getElem_cons_succ, List.getElem_cons_zero, Act.put, List.setIfInBounds_toArray, List.set_cons_zero, List.set_cons_succ]
                  refine wpAnyH_take (i := 7) (v := undef) rfl (by kernel_rfl) (by kernel_rfl) (by kernel_rfl) (fun _ _ _ h => h) (Or.inr ⟨rfl, rfl⟩) hHeld ?_
                  simp only [List.getElem_toArray, List.getElem_cons_succ, List.getElem_cons_zero, Act.put, List.setIfInBounds_toArray, List.set_cons_zero, List.set_cons_succ]
                  refine wpAnyH_take (i := 8) (v := undef) rfl (by kernel_rfl) (by kernel_rfl) (by kernel_rfl) (fun _ _ _ h => h) (Or.inr ⟨rfl, rfl⟩) hHeld ?_
                  simp only [List.getElem_toArray, List.getElem_cons_succ, List.getElem_cons_zero, Act.put, List.setIfInBounds_toArray, List.set_cons_zero, List.set_cons_succ]
                  refine wpAnyH_take (i := 9) (v := undef) rfl (by kernel_rfl) (by kernel_rfl) (by kernel_rfl) (fun _ _ _ h => h) (Or.inr ⟨rfl, rfl⟩) hHeld ?_
                  simp only [List.getElem_toArray, List.getElem_cons_succ, List.getElem_cons_zero, Act.put, List.setIfInBounds_toArray, List.set_cons_zero, List.set_cons_succ]
                  refine wpAnyH_take (i := 10) (v := undef) rfl (by kernel_rfl) (by kernel_rfl) (by kernel_rfl) (fun _ _ _ h => h) (Or.inr ⟨rfl, rfl⟩) hHeld ?_
                  simp only [List.getElem_toArray, List.getElem_cons_succ, List.getElem_cons_zero, Act.put, List.setIfInBounds_toArray, List.set_cons_zero, List.set_cons_succ]
                  refine wpAnyH_take (i := 11) (v := undef) rfl (by kernel_rfl) (by kernel_rfl) (by kernel_rfl) (fun _ _ _ h => h) (Or.inr ⟨rfl, rfl⟩) hHeld ?_
                  simp only [List.getElem_toArray, List.getElem_cons_succ, List.getElem_cons_zero, Act.put, List.setIfInBounds_toArray, List.set_cons_zero, List.set_cons_succ]
                  refine wpAnyH_take (i := 12) (v := undef) rfl (by kernel_rfl) (by kernel_rfl) (by kernel_rfl) (fun _ _ _ h => h) (Or.inr ⟨rfl, rfl⟩) hHeld ?_
                  simp only [List.getElem_toArray, List.getElem_cons_succ, List.getElem_cons_zero, Act.put, List.setIfInBounds_toArray, List.set_cons_zero, List.set_cons_succ]
                  refine wpAnyH_take (i := 13) (v := ?v65) rfl (by kernel_rfl) (by kernel_rfl) (by kernel_rfl) (fun _ _ _ h => h) (Or.inl ⟨rfl, fun w' hw' => ?h65⟩) hHeld ?r65
                  case h65 =>
                    go_simp
                    try with_reducible rfl
                  simp only [List.getElem_toArray, List.getElem_cons_succ, List.getElem_cons_zero, Act.put, List.setIfInBounds_toArray, List.set_cons_zero, List.set_cons_succ]
                  refine wpAnyH_done (by kernel_rfl) ?_ _
                  refine NoPanic.normal ?_
                  clear hHeld
                  clear HP5
                  obtain ⟨Z, hZ⟩ : ∃ Z, Z = w5 := ⟨_, rfl⟩
                  rw [← hZ] at HST5 ⊢
                  clear hZ
                  have FOL := Lib.hid (fun W (hb : Below Z.heap.size Z W) j (hj : j < l.length) => follow_o (HST5.out.1.below hb).hp l[j] (by have := ch_bd HCH5.out HST5.out.1.hp hj; omega) (by have := ch_bd HCH5.out HST5.out.1.hp hj; omega))
                  have FTG := Lib.hid (fun W (hb : Below Z.heap.size Z W) j (hj : j < l.length) => tagm_any (HST5.out.1.below hb).hp l[j] (by have := ch_bd HCH5.out HST5.out.1.hp hj; omega) (by have := ch_bd HCH5.out HST5.out.1.hp hj; omega))
                  have H0 : Hid (Lp4 Z i (.int .i64 0) Z) := ⟨0, Nat.zero_le _, rfl, Below.refl _ _⟩
                  go_wp2_with fail
                  go_loopw [17] (fun iv wr => Lp4 Z i iv wr) (fun iv _ => i - (intOf iv).toNat)
                  case atStart => exact H0.out
                  case round =>
                    clear H0
                    obtain ⟨j, hj, rfl, hbel⟩ := hrel
                    have HB := Lib.hid hbel
                    clear hbel
                    by_cases hji : j < i
                    · have q1 : decide ((j : Int) < (i : Int)) = true := decide_eq_true (by omega)
                      have hjl : j < l.length := by rw [HLN.out]; exact hji
                      have cj := (HST5.out.below HB.out).cellD j hjl
                      have cm := (HST5.out.below HB.out).cellD y (by rw [HLN.out]; omega)
                      have FO := Lib.hid (fun W (hb : Below Z.heap.size Z W) => FOL.out W hb j hjl)
                      have FT := Lib.hid (fun W (hb : Below Z.heap.size Z W) => FTG.out W hb j hjl)
                      rw [ch_tag HCH5.out hjl] at FT
                      rw [ch_end (i := y) (HST5.out.1.hp.2.2.1) (HST5.out.1.hp.2.1) HCH5.out (by rw [HLN.out]; omega) hjl] at FO
                      rw [← getD_at hjl] at FO FT
                      generalize l.getD j 0 = lj at FO FT cj
                      generalize hlm : l.getD y 0 = lm at FO cm
                      clear hlm
                      by_cases hj1 : j + 1 < i
                      · have q2 : decide ((j : Int) + 1 < (i : Int)) = true := decide_eq_true (by omega)
                        rw [if_pos (by omega)] at FT
                        go_wp2_with fail
                        refine (FO.out wr HB.out).mono ?_
                        rintro e w6 ⟨rfl, hb6⟩
                        have B6 := Lib.hid (HB.out.trans (hb6.mono HB.out.size))
                        have cj6 := (hb6.cell (World.block_lt_of_cell? _ _ cj)).trans cj
                        clear hb6
                        go_wp2_with fail
                        refine (FT.out w6 B6.out).mono ?_
                        rintro e w7 ⟨rfl, hb7⟩
                        have HR : Hid (Lp4 Z i (.int .i64 ((j : Int) + 1)) w7) := ⟨j + 1, by omega, by go_num, B6.out.trans (hb7.mono B6.out.size)⟩
                        clear hb7
                        go_wp2_with fail
                        go_roundw
                        case rel => exact HR.out
                        case measure => simp [intOf]; omega
                      · have q2 : decide ((j : Int) + 1 < (i : Int)) = false := decide_eq_false (by omega)
                        rw [if_neg (by omega)] at FT
                        go_wp2_with fail
                        refine (FO.out wr HB.out).mono ?_
                        rintro e w6 ⟨rfl, hb6⟩
                        have B6 := Lib.hid (HB.out.trans (hb6.mono HB.out.size))
                        have cj6 := (hb6.cell (World.block_lt_of_cell? _ _ cj)).trans cj
                        clear hb6
                        go_wp2_with fail
                        refine (FT.out w6 B6.out).mono ?_
                        rintro e w7 ⟨rfl, hb7⟩
                        have HR : Hid (Lp4 Z i (.int .i64 ((j : Int) + 1)) w7) := ⟨j + 1, by omega, by go_num, B6.out.trans (hb7.mono B6.out.size)⟩
                        clear hb7
                        go_wp2_with fail
                        go_roundw
                        case rel => exact HR.out
                        case measure => simp [intOf]; omega
                    · obtain rfl : j = i := by omega
                      have q1 : decide ((j : Int) < (j : Int)) = false := decide_eq_false (by omega)
                      have F23 : Hid (∀ W, Below wr.heap.size wr W → Calls Try.prog 23 #[.pointer (some ⟨b, 0, none⟩)] W fun e w' => e = .returned (.int .i64 (2 * (j : Int))) ∧ W = w') := fun W hb => by
                        have := used_any (HST5.out.1.below (HB.out.trans (hb.mono HB.out.size))).hp.1
                        rw [wds_length, HCH5.out.2.1, HLN.out] at this
                        rw [show 2 * (j : Int) = ((2 * j : Nat) : Int) by omega]
                        exact this
                      have F29 := Lib.hid (fun W (hb : Below wr.heap.size wr W) => over_no (HST5.out.1.below (HB.out.trans (hb.mono HB.out.size))).hp (l.getD 0 0) (l.getD 0 0) ((L0B HCH5.out HST5.out.1.hp (by rw [HLN.out]; omega)).1) ((L0B HCH5.out HST5.out.1.hp (by rw [HLN.out]; omega)).2) ((L0B HCH5.out HST5.out.1.hp (by rw [HLN.out]; omega)).1) ((L0B HCH5.out HST5.out.1.hp (by rw [HLN.out]; omega)).2) (.inl rfl))
                      have HCE : Hid (∀ W, Below wr.heap.size wr W → W.cell? ⟨g, 0, none⟩ = some (.int .i64 (l.getD 0 0))) := fun W hb => (HST5.out.below (HB.out.trans (hb.mono HB.out.size))).cellD 0 (by rw [HLN.out]; omega)
                      generalize l.getD 0 0 = l0 at F29 HCE
                      have HBE : Hid (Below w.heap.size w wr) := (HST5.out.below HB.out).1.bel
                      go_upto_region 33 with fail
                      refine wp_region_noPanic ?_
                      have hbx := (Below.refl wr.heap.size wr).drew
                      refine wp_region_held_drew (S := fun W => W.cell? ⟨g, 0, none⟩ = some (.int .i64 l0)) (by kernel_rfl) (HCE.out _ hbx) (fun hHeld => ?_)
                      generalize wr.drew = X at hHeld hbx ⊢
                      have HBX := Lib.hid hbx
                      clear hbx
                      refine wpAnyH_take (i := 0) (v := ?v79) rfl (by kernel_rfl) (by kernel_rfl) (by kernel_rfl) (fun _ _ _ h => h) (Or.inl ⟨rfl, fun w' hw' => ?h79⟩) hHeld ?r79
                      case h79 =>
                        go_simp
                        try with_reducible rfl
                      simp only [List.getElem_toArray, List.getElem_cons_succ, List.getElem_cons_zero, Act.put, List.setIfInBounds_toArray, List.set_cons_zero, List.set_cons_succ]
                      refine wpAnyH_take (i := 2) (v := ?v80) rfl (by kernel_rfl) (by kernel_rfl) (by kernel_rfl) (fun _ _ _ h => h) (Or.inl ⟨rfl, fun w' hw' => ?h80⟩) hHeld ?r80
                      case h80 =>
                        go_simp
                        try with_reducible rfl
                      simp only [List.getElem_toArray, List.getElem_cons_succ, List.getElem_cons_zero, Act.put, List.setIfInBounds_toArray, List.set_cons_zero, List.set_cons_succ]
                      refine wpAnyH_take (i := 3) (v := Value.int .i64 (2 * (j : Int))) rfl (by kernel_rfl) (by kernel_rfl) (by kernel_rfl) (fun _ _ _ h => h) (Or.inl ⟨rfl, fun w' hw' => ?_⟩) hHeld ?_
                      · (go_simp; try (rw [IntKind.wrap_i64]; omega))
                      simp only [List.getElem_toArray, List.getElem_cons_succ, List.getElem_cons_zero, Act.put, List.setIfInBounds_toArray, List.set_cons_zero, List.set_cons_succ]
                      refine wpAnyH_ready (rs := [1]) (by kernel_rfl) (by simp) ?_
                      refine (AllReadyH.cons rfl (fun K hK => ?_) AllReadyH.nil)
                      go_simp
                      refine (F23.out X HBX.out).mono ?_
                      rintro e v1 ⟨rfl, rfl⟩
                      refine hK.out _ _ hHeld (fun hHeld => ?_)
                      clear hK K
                      try simp only [List.getElem_toArray, List.getElem_cons_succ, List.getElem_cons_zero, Act.put, List.setIfInBounds_toArray, List.set_cons_zero, List.set_cons_succ]
                      refine wpAnyH_take (i := 4) (v := Value.bool true) rfl (by kernel_rfl) (by kernel_rfl) (by kernel_rfl) (fun _ _ _ h => h) (Or.inl ⟨rfl, fun w' hw' => ?_⟩) hHeld ?_
                      · go_simp
                      simp only [List.getElem_toArray, List.getElem_cons_succ, List.getElem_cons_zero, Act.put, List.setIfInBounds_toArray, List.set_cons_zero, List.set_cons_succ]
                      refine wpAnyH_take (i := 5) (v := Value.bool true) rfl (by kernel_rfl) (by kernel_rfl) (by kernel_rfl) (fun _ _ _ h => h) (Or.inl ⟨rfl, fun w' hw' => ?_⟩) hHeld ?_
                      · go_simp
                      simp only [List.getElem_toArray, List.getElem_cons_succ, List.getElem_cons_zero, Act.put, List.setIfInBounds_toArray, List.set_cons_zero, List.set_cons_succ]
                      refine wpAnyH_take (i := 6) (v := ?v84) rfl (by kernel_rfl) (by kernel_rfl) (by kernel_rfl) (fun _ _ _ h => h) (Or.inl ⟨rfl, fun w' hw' => ?h84⟩) hHeld ?r84
                      case h84 =>
                        go_simp
                        try with_reducible rfl
                      simp only [List.getElem_toArray, List.getElem_cons_succ, List.getElem_cons_zero, Act.put, List.setIfInBounds_toArray, List.set_cons_zero, List.set_cons_succ]
                      refine wpAnyH_take (i := 7) (v := ?v85) rfl (by kernel_rfl) (by kernel_rfl) (by kernel_rfl) (fun _ _ _ h => h) (Or.inl ⟨rfl, fun w' hw' => ?h85⟩) hHeld ?r85
                      case h85 =>
                        go_simp
                        try with_reducible rfl
                      simp only [List.getElem_toArray, List.getElem_cons_succ, List.getElem_cons_zero, Act.put, List.setIfInBounds_toArray, List.set_cons_zero, List.set_cons_succ]
                      refine wpAnyH_take (i := 8) (v := ?v86) rfl (by kernel_rfl) (by kernel_rfl) (by kernel_rfl) (fun _ _ _ h => h) (Or.inl ⟨rfl, fun w' hw' => ?h86⟩) hHeld ?r86
                      case h86 =>
                        go_simp
                        try with_reducible rfl
                      simp only [List.getElem_toArray, List.getElem_cons_succ, List.getElem_cons_zero, Act.put, List.setIfInBounds_toArray, List.set_cons_zero, List.set_cons_succ]
                      refine wpAnyH_take (i := 9) (v := ?v87) rfl (by kernel_rfl) (by kernel_rfl) (by kernel_rfl) (fun _ _ _ h => h) (Or.inl ⟨rfl, fun w' hw' => ?h87⟩) hHeld ?r87
                      case h87 =>
                        (have d0 := hw'; go_simp)
                        try with_reducible rfl
                      simp only [List.getElem_toArray, List.getElem_cons_succ, List.getElem_cons_zero, Act.put, List.setIfInBounds_toArray, List.set_cons_zero, List.set_cons_succ]
                      refine wpAnyH_take (i := 10) (v := ?v88) rfl (by kernel_rfl) (by kernel_rfl) (by kernel_rfl) (fun _ _ _ h => h) (Or.inl ⟨rfl, fun w' hw' => ?h88⟩) hHeld ?r88
                      case h88 =>
                        go_simp
                        try with_reducible rfl
                      simp only [List.getElem_toArray, List.getElem_cons_succ, List.getElem_cons_zero, Act.put, List.setIfInBounds_toArray, List.set_cons_zero, List.set_cons_succ]
                      refine wpAnyH_take (i := 11) (v := ?v89) rfl (by kernel_rfl) (by kernel_rfl) (by kernel_rfl) (fun _ _ _ h => h) (Or.inl ⟨rfl, fun w' hw' => ?h89⟩) hHeld ?r89
                      case h89 =>
                        go_simp
                        try with_reducible rfl
                      simp only [List.getElem_toArray, List.getElem_cons_succ, List.getElem_cons_zero, Act.put, List.setIfInBounds_toArray, List.set_cons_zero, List.set_cons_succ]
                      refine wpAnyH_take (i := 12) (v := ?v90) rfl (by kernel_rfl) (by kernel_rfl) (by kernel_rfl) (fun _ _ _ h => h) (Or.inl ⟨rfl, fun w' hw' => ?h90⟩) hHeld ?r90
                      case h90 =>
                        (have d0 := hw'; go_simp)
                        try with_reducible rfl
                      simp only [List.getElem_toArray, List.getElem_cons_succ, List.getElem_cons_zero, Act.put, List.setIfInBounds_toArray, List.set_cons_zero, List.set_cons_succ]
                      refine wpAnyH_ready (rs := [13]) (by kernel_rfl) (by simp) ?_
                      refine (AllReadyH.cons rfl (fun K hK => ?_) AllReadyH.nil)
                      go_simp
                      refine (F29.out X HBX.out).mono ?_
                      rintro e v2 ⟨rfl, hb2⟩
                      have K2 := Lib.hid (HBX.out.trans (hb2.mono HBX.out.size))
                      have hS2 := HCE.out v2 K2.out
                      clear hb2
                      refine hK.out _ _ hS2 (fun hHeld => ?_)
                      clear hK K
                      try simp only [List.getElem_toArray, List.getElem_cons_succ, List.getElem_cons_zero, Act.put, List.setIfInBounds_toArray, List.set_cons_zero, List.set_cons_succ]
                      refine wpAnyH_take (i := 14) (v := ?v91) rfl (by kernel_rfl) (by kernel_rfl) (by kernel_rfl) (fun _ _ _ h => h) (Or.inl ⟨rfl, fun w' hw' => ?h91⟩) hHeld ?r91
                      case h91 =>
                        go_simp
                        try with_reducible rfl
                      simp only [List.getElem_toArray, List.getElem_cons_succ, List.getElem_cons_zero, Act.put, List.setIfInBounds_toArray, List.set_cons_zero, List.set_cons_succ]
                      refine wpAnyH_take (i := 15) (v := ?v92) rfl (by kernel_rfl) (by kernel_rfl) (by kernel_rfl) (fun _ _ _ h => h) (Or.inl ⟨rfl, fun w' hw' => ?h92⟩) hHeld ?r92
                      case h92 =>
                        go_simp
                        try with_reducible rfl
                      simp only [List.getElem_toArray, List.getElem_cons_succ, List.getElem_cons_zero, Act.put, List.setIfInBounds_toArray, List.set_cons_zero, List.set_cons_succ]
                      refine wpAnyH_take (i := 16) (v := ?v93) rfl (by kernel_rfl) (by kernel_rfl) (by kernel_rfl) (fun _ _ _ h => h) (Or.inl ⟨rfl, fun w' hw' => ?h93⟩) hHeld ?r93
                      case h93 =>
                        go_simp
                        try with_reducible rfl
                      simp only [List.getElem_toArray, List.getElem_cons_succ, List.getElem_cons_zero, Act.put, List.setIfInBounds_toArray, List.set_cons_zero, List.set_cons_succ]
                      refine wpAnyH_done (by kernel_rfl) ?_ _
                      refine NoPanic.normal ?_
                      clear hHeld
                      go_wp2_with fail
                      go_ret
                      exact ⟨rfl, HBE.out.trans (K2.out.mono HBE.out.size)⟩
                | true =>
                  obtain ⟨os', hc', ho'⟩ := ch_over HCH.out HST.out.1.hp (by rw [HLN.out]; omega) (show y < l.length by rw [HLN.out]; omega)
                  rw [HLN.out, hm, Nat.mod_self] at ho'
                  rw [hm] at hc'
                  have HC5 := Lib.hid hc'
                  have F29 := Lib.hid ho'
                  have HCE : Hid (∀ (W : World) (os : List Ob), (∃ G, St w W b g G os l) → W.cell? ⟨g, y, none⟩ = some (.int .i64 (l.getD y 0)) ∧ W.cell? ⟨g, 0, none⟩ = some (.int .i64 (l.getD 0 0))) := fun W _ h => by
                    obtain ⟨G, h⟩ := h
                    have hln := HLN.out
                    exact ⟨h.cellD y (by omega), h.cellD 0 (by omega)⟩
                  generalize l.getD y 0 = ly at F29 HCE
                  generalize l.getD 0 0 = lz at F29 HCE
                  clear hc' ho'
                  go_upto_region 23 with fail
                  refine wp_region_noPanic ?_
                  have hbx := (Below.refl wr.heap.size wr).drew
                  refine wp_region_held_drew (S := fun W => W.cell? ⟨g, y, none⟩ = some (.int .i64 ly) ∧ W.cell? ⟨g, 0, none⟩ = some (.int .i64 lz)) (by kernel_rfl) (HCE.out _ os ⟨G, HST.out.below hbx⟩) (fun hHeld => ?_)
                  generalize wr.drew = X at hHeld hbx ⊢
                  have HBX := Lib.hid hbx
                  clear hbx
                  refine wpAnyH_take (i := 0) (v := ?v66) rfl (by kernel_rfl) (by kernel_rfl) (by kernel_rfl) (fun _ _ _ h => h) (Or.inl ⟨rfl, fun w' hw' => ?h66⟩) hHeld ?r66
                  case h66 =>
                    go_simp
                    try with_reducible rfl
                  simp only [List.getElem_toArray, List.getElem_cons_succ, List.getElem_cons_zero, Act.put, List.setIfInBounds_toArray, List.set_cons_zero, List.set_cons_succ]
                  refine wpAnyH_take (i := 1) (v := ?v67) rfl (by kernel_rfl) (by kernel_rfl) (by kernel_rfl) (fun _ _ _ h => h) (Or.inl ⟨rfl, fun w' hw' => ?h67⟩) hHeld ?r67
                  case h67 =>
                    go_simp
                    try with_reducible rfl
                  simp only [List.getElem_toArray, List.getElem_cons_succ, List.getElem_cons_zero, Act.put, List.setIfInBounds_toArray, List.set_cons_zero, List.set_cons_succ]
                  refine wpAnyH_take (i := 2) (v := ?v68) rfl (by kernel_rfl) (by kernel_rfl) (by kernel_rfl) (fun _ _ _ h => h) (Or.inl ⟨rfl, fun w' hw' => ?h68⟩) hHeld ?r68
                  case h68 =>
                    go_simp
                    try with_reducible rfl
                  simp only [List.getElem_toArray, List.getElem_cons_succ, List.getElem_cons_zero, Act.put, List.setIfInBounds_toArray, List.set_cons_zero, List.set_cons_succ]
                  refine wpAnyH_take (i := 3) (v := ?v69) rfl (by kernel_rfl) (by kernel_rfl) (by kernel_rfl) (fun _ _ _ h => h) (Or.inl ⟨rfl, fun w' hw' => ?h69⟩) hHeld ?r69
                  case h69 =>
                    go_simp
                    try with_reducible rfl
                  simp only [List.getElem_toArray, List.getElem_cons_succ, List.getElem_cons_zero, Act.put, List.setIfInBounds_toArray, List.set_cons_zero, List.set_cons_succ]
                  refine wpAnyH_take (i := 4) (v := ?v70) rfl (by kernel_rfl) (by kernel_rfl) (by kernel_rfl) (fun _ _ _ h => h) (Or.inl ⟨rfl, fun w' hw' => ?h70⟩) hHeld ?r70
                  case h70 =>
                    go_simp
                    try with_reducible rfl
                  simp only [List.getElem_toArray, List.getElem_cons_succ, List.getElem_cons_zero, Act.put, List.setIfInBounds_toArray, List.set_cons_zero, List.set_cons_succ]
                  refine wpAnyH_take (i := 5) (v := Value.int .i64 (y : Int)) rfl (by kernel_rfl) (by kernel_rfl) (by kernel_rfl) (fun _ _ _ h => h) (Or.inl ⟨rfl, fun w' hw' => ?_⟩) hHeld ?_
                  · (go_simp; try (rw [IntKind.wrap_i64]; omega))
                  simp only [List.getElem_toArray, List.getElem_cons_succ, List.getElem_cons_zero, Act.put, List.setIfInBounds_toArray, List.set_cons_zero, List.set_cons_succ]
                  refine wpAnyH_take (i := 6) (v := ?v72) rfl (by kernel_rfl) (by kernel_rfl) (by kernel_rfl) (fun _ _ _ h => h) (Or.inl ⟨rfl, fun w' hw' => ?h72⟩) hHeld ?r72
                  case h72 =>
                    go_simp
                    try with_reducible rfl
                  simp only [List.getElem_toArray, List.getElem_cons_succ, List.getElem_cons_zero, Act.put, List.setIfInBounds_toArray, List.set_cons_zero, List.set_cons_succ]
                  refine wpAnyH_take (i := 7) (v := ?v73) rfl (by kernel_rfl) (by kernel_rfl) (by kernel_rfl) (fun _ _ _ h => h) (Or.inl ⟨rfl, fun w' hw' => ?h73⟩) hHeld ?r73
                  case h73 =>
                    (obtain ⟨d0, _⟩ := hw'; go_simp)
                    try with_reducible rfl
                  simp only [List.getElem_toArray, List.getElem_cons_succ, List.getElem_cons_zero, Act.put, List.setIfInBounds_toArray, List.set_cons_zero, List.set_cons_succ]
                  refine wpAnyH_take (i := 8) (v := ?v74) rfl (by kernel_rfl) (by kernel_rfl) (by kernel_rfl) (fun _ _ _ h => h) (Or.inl ⟨rfl, fun w' hw' => ?h74⟩) hHeld ?r74
                  case h74 =>
                    go_simp
                    try with_reducible rfl
                  simp only [List.getElem_toArray, List.getElem_cons_succ, List.getElem_cons_zero, Act.put, List.setIfInBounds_toArray, List.set_cons_zero, List.set_cons_succ]
                  refine wpAnyH_take (i := 9) (v := ?v75) rfl (by kernel_rfl) (by kernel_rfl) (by kernel_rfl) (fun _ _ _ h => h) (Or.inl ⟨rfl, fun w' hw' => ?h75⟩) hHeld ?r75
                  case h75 =>
                    go_simp
                    try with_reducible rfl
                  simp only [List.getElem_toArray, List.getElem_cons_succ, List.getElem_cons_zero, Act.put, List.setIfInBounds_toArray, List.set_cons_zero, List.set_cons_succ]
                  refine wpAnyH_take (i := 10) (v := ?v76) rfl (by kernel_rfl) (by kernel_rfl) (by kernel_rfl) (fun _ _ _ h => h) (Or.inl ⟨rfl, fun w' hw' => ?h76⟩) hHeld ?r76
                  case h76 =>
                    (obtain ⟨_, d0⟩ := hw'; go_simp)
                    try with_reducible rfl
                  simp only [List.getElem_toArray, List.getElem_cons_succ, List.getElem_cons_zero, Act.put, List.setIfInBounds_toArray, List.set_cons_zero, List.set_cons_succ]
                  refine wpAnyH_ready (rs := [11]) (by kernel_rfl) (by simp) ?_
                  refine (AllReadyH.cons rfl (fun K hK => ?_) AllReadyH.nil)
                  go_simp
                  refine (F29.out X HBX.out).mono ?_
                  rintro e w5 hr
                  obtain ⟨rfl, h5⟩ := (HST.out.below HBX.out).turn hr
                  have H5 := Lib.hid h5
                  have hS5 := HCE.out w5 _ h5
                  clear hr h5 F29
                  refine hK.out _ _ hS5 (fun hHeld => ?_)
                  clear hK K
                  try simp only [List.getElem_toArray, List.getElem_cons_succ, List.getElem_cons_zero, Act.put, List.setIfInBounds_toArray, List.set_cons_zero, List.set_cons_succ]
                  refine wpAnyH_take (i := 12) (v := ?v77) rfl (by kernel_rfl) (by kernel_rfl) (by kernel_rfl) (fun _ _ _ h => h) (Or.inl ⟨rfl, fun w' hw' => ?h77⟩) hHeld ?r77
                  case h77 =>
                    go_simp
                    try with_reducible rfl
                  simp only [List.getElem_toArray, List.getElem_cons_succ, List.getElem_cons_zero, Act.put, List.setIfInBounds_toArray, List.set_cons_zero, List.set_cons_succ]
                  refine wpAnyH_take (i := 13) (v := ?v78) rfl (by kernel_rfl) (by kernel_rfl) (by kernel_rfl) (fun _ _ _ h => h) (Or.inl ⟨rfl, fun w' hw' => ?h78⟩) hHeld ?r78
                  case h78 =>
                    go_simp
                    try with_reducible rfl
                  simp only [List.getElem_toArray, List.getElem_cons_succ, List.getElem_cons_zero, Act.put, List.setIfInBounds_toArray, List.set_cons_zero, List.set_cons_succ]
                  refine wpAnyH_done (by kernel_rfl) ?_ _
                  refine NoPanic.normal ?_
                  clear hHeld
                  obtain ⟨G5, h5⟩ := H5.out
                  have HST5 := Lib.hid h5
                  have HCH5 := HC5
                  have HP5 := HBX
                  clear h5 H5 HCE HST HCH HC5 HBX
                  clear HP5
                  obtain ⟨Z, hZ⟩ : ∃ Z, Z = w5 := ⟨_, rfl⟩
                  rw [← hZ] at HST5 ⊢
                  clear hZ
                  have FOL := Lib.hid (fun W (hb : Below Z.heap.size Z W) j (hj : j < l.length) => follow_o (HST5.out.1.below hb).hp l[j] (by have := ch_bd HCH5.out HST5.out.1.hp hj; omega) (by have := ch_bd HCH5.out HST5.out.1.hp hj; omega))
                  have FTG := Lib.hid (fun W (hb : Below Z.heap.size Z W) j (hj : j < l.length) => tagm_any (HST5.out.1.below hb).hp l[j] (by have := ch_bd HCH5.out HST5.out.1.hp hj; omega) (by have := ch_bd HCH5.out HST5.out.1.hp hj; omega))
                  have H0 : Hid (Lp4 Z i (.int .i64 0) Z) := ⟨0, Nat.zero_le _, rfl, Below.refl _ _⟩
                  go_wp2_with fail
                  go_loopw [17] (fun iv wr => Lp4 Z i iv wr) (fun iv _ => i - (intOf iv).toNat)
                  case atStart => exact H0.out
                  case round =>
                    clear H0
                    obtain ⟨j, hj, rfl, hbel⟩ := hrel
                    have HB := Lib.hid hbel
                    clear hbel
                    by_cases hji : j < i
                    · have q1 : decide ((j : Int) < (i : Int)) = true := decide_eq_true (by omega)
                      have hjl : j < l.length := by rw [HLN.out]; exact hji
                      have cj := (HST5.out.below HB.out).cellD j hjl
                      have cm := (HST5.out.below HB.out).cellD y (by rw [HLN.out]; omega)
                      have FO := Lib.hid (fun W (hb : Below Z.heap.size Z W) => FOL.out W hb j hjl)
                      have FT := Lib.hid (fun W (hb : Below Z.heap.size Z W) => FTG.out W hb j hjl)
                      rw [ch_tag HCH5.out hjl] at FT
                      rw [ch_ring (HST5.out.1.hp.2.2.1) (HST5.out.1.hp.2.1) (by have h := HCH5.out; rw [← HLN.out] at h; exact h) hjl] at FO
                      rw [← getD_at hjl] at FO FT
                      generalize l.getD j 0 = lj at FO FT cj
                      generalize hlm : l.getD y 0 = lm at FO cm
                      clear hlm
                      by_cases hj1 : j + 1 < i
                      · have q2 : decide ((j : Int) + 1 < (i : Int)) = true := decide_eq_true (by omega)
                        rw [if_pos (by omega)] at FT
                        go_wp2_with fail
                        refine (FO.out wr HB.out).mono ?_
                        rintro e w6 ⟨rfl, hb6⟩
                        have B6 := Lib.hid (HB.out.trans (hb6.mono HB.out.size))
                        have cj6 := (hb6.cell (World.block_lt_of_cell? _ _ cj)).trans cj
                        clear hb6
                        go_wp2_with fail
                        refine (FT.out w6 B6.out).mono ?_
                        rintro e w7 ⟨rfl, hb7⟩
                        have HR : Hid (Lp4 Z i (.int .i64 ((j : Int) + 1)) w7) := ⟨j + 1, by omega, by go_num, B6.out.trans (hb7.mono B6.out.size)⟩
                        clear hb7
                        go_wp2_with fail
                        go_roundw
                        case rel => exact HR.out
                        case measure => simp [intOf]; omega
                      · have q2 : decide ((j : Int) + 1 < (i : Int)) = false := decide_eq_false (by omega)
                        rw [if_pos (by omega)] at FT
                        go_wp2_with fail
                        refine (FO.out wr HB.out).mono ?_
                        rintro e w6 ⟨rfl, hb6⟩
                        have B6 := Lib.hid (HB.out.trans (hb6.mono HB.out.size))
                        have cj6 := (hb6.cell (World.block_lt_of_cell? _ _ cj)).trans cj
                        clear hb6
                        go_wp2_with fail
                        refine (FT.out w6 B6.out).mono ?_
                        rintro e w7 ⟨rfl, hb7⟩
                        have HR : Hid (Lp4 Z i (.int .i64 ((j : Int) + 1)) w7) := ⟨j + 1, by omega, by go_num, B6.out.trans (hb7.mono B6.out.size)⟩
                        clear hb7
                        go_wp2_with fail
                        go_roundw
                        case rel => exact HR.out
                        case measure => simp [intOf]; omega
                    · obtain rfl : j = i := by omega
                      have q1 : decide ((j : Int) < (j : Int)) = false := decide_eq_false (by omega)
                      have F23 : Hid (∀ W, Below wr.heap.size wr W → Calls Try.prog 23 #[.pointer (some ⟨b, 0, none⟩)] W fun e w' => e = .returned (.int .i64 (2 * (j : Int))) ∧ W = w') := fun W hb => by
                        have := used_any (HST5.out.1.below (HB.out.trans (hb.mono HB.out.size))).hp.1
                        rw [wds_length, HCH5.out.2.1, HLN.out] at this
                        rw [show 2 * (j : Int) = ((2 * j : Nat) : Int) by omega]
                        exact this
                      have F29 := Lib.hid (fun W (hb : Below wr.heap.size wr W) => over_no (HST5.out.1.below (HB.out.trans (hb.mono HB.out.size))).hp (l.getD 0 0) (l.getD 0 0) ((L0B HCH5.out HST5.out.1.hp (by rw [HLN.out]; omega)).1) ((L0B HCH5.out HST5.out.1.hp (by rw [HLN.out]; omega)).2) ((L0B HCH5.out HST5.out.1.hp (by rw [HLN.out]; omega)).1) ((L0B HCH5.out HST5.out.1.hp (by rw [HLN.out]; omega)).2) (.inl rfl))
                      have HCE : Hid (∀ W, Below wr.heap.size wr W → W.cell? ⟨g, 0, none⟩ = some (.int .i64 (l.getD 0 0))) := fun W hb => (HST5.out.below (HB.out.trans (hb.mono HB.out.size))).cellD 0 (by rw [HLN.out]; omega)
                      generalize l.getD 0 0 = l0 at F29 HCE
                      have HBE : Hid (Below w.heap.size w wr) := (HST5.out.below HB.out).1.bel
                      go_upto_region 33 with fail
                      refine wp_region_noPanic ?_
                      have hbx := (Below.refl wr.heap.size wr).drew
                      refine wp_region_held_drew (S := fun W => W.cell? ⟨g, 0, none⟩ = some (.int .i64 l0)) (by kernel_rfl) (HCE.out _ hbx) (fun hHeld => ?_)
                      generalize wr.drew = X at hHeld hbx ⊢
                      have HBX := Lib.hid hbx
                      clear hbx
                      refine wpAnyH_take (i := 0) (v := ?v94) rfl (by kernel_rfl) (by kernel_rfl) (by kernel_rfl) (fun _ _ _ h => h) (Or.inl ⟨rfl, fun w' hw' => ?h94⟩) hHeld ?r94
                      case h94 =>
                        go_simp
                        try with_reducible rfl
                      simp only [List.getElem_toArray, List.getElem_cons_succ, List.getElem_cons_zero, Act.put, List.setIfInBounds_toArray, List.set_cons_zero, List.set_cons_succ]
                      refine wpAnyH_take (i := 2) (v := ?v95) rfl (by kernel_rfl) (by kernel_rfl) (by kernel_rfl) (fun _ _ _ h => h) (Or.inl ⟨rfl, fun w' hw' => ?h95⟩) hHeld ?r95
                      case h95 =>
                        go_simp
                        try with_reducible rfl
                      simp only [List.getElem_toArray, List.getElem_cons_succ, List.getElem_cons_zero, Act.put, List.setIfInBounds_toArray, List.set_cons_zero, List.set_cons_succ]
                      refine wpAnyH_take (i := 3) (v := Value.int .i64 (2 * (j : Int))) rfl (by kernel_rfl) (by kernel_rfl) (by kernel_rfl) (fun _ _ _ h => h) (Or.inl ⟨rfl, fun w' hw' => ?_⟩) hHeld ?_
                      · (go_simp; try (rw [IntKind.wrap_i64]; omega))
                      simp only [List.getElem_toArray, List.getElem_cons_succ, List.getElem_cons_zero, Act.put, List.setIfInBounds_toArray, List.set_cons_zero, List.set_cons_succ]
                      refine wpAnyH_ready (rs := [1]) (by kernel_rfl) (by simp) ?_
                      refine (AllReadyH.cons rfl (fun K hK => ?_) AllReadyH.nil)
                      go_simp
                      refine (F23.out X HBX.out).mono ?_
                      rintro e v1 ⟨rfl, rfl⟩
                      refine hK.out _ _ hHeld (fun hHeld => ?_)
                      clear hK K
                      try simp only [List.getElem_toArray, List.getElem_cons_succ, List.getElem_cons_zero, Act.put, List.setIfInBounds_toArray, List.set_cons_zero, List.set_cons_succ]
                      refine wpAnyH_take (i := 4) (v := Value.bool true) rfl (by kernel_rfl) (by kernel_rfl) (by kernel_rfl) (fun _ _ _ h => h) (Or.inl ⟨rfl, fun w' hw' => ?_⟩) hHeld ?_
                      · go_simp
                      simp only [List.getElem_toArray, List.getElem_cons_succ, List.getElem_cons_zero, Act.put, List.setIfInBounds_toArray, List.set_cons_zero, List.set_cons_succ]
                      refine wpAnyH_take (i := 5) (v := Value.bool true) rfl (by kernel_rfl) (by kernel_rfl) (by kernel_rfl) (fun _ _ _ h => h) (Or.inl ⟨rfl, fun w' hw' => ?_⟩) hHeld ?_
                      · go_simp
                      simp only [List.getElem_toArray, List.getElem_cons_succ, List.getElem_cons_zero, Act.put, List.setIfInBounds_toArray, List.set_cons_zero, List.set_cons_succ]
                      refine wpAnyH_take (i := 6) (v := ?v99) rfl (by kernel_rfl) (by kernel_rfl) (by kernel_rfl) (fun _ _ _ h => h) (Or.inl ⟨rfl, fun w' hw' => ?h99⟩) hHeld ?r99
                      case h99 =>
                        go_simp
                        try with_reducible rfl
                      simp only [List.getElem_toArray, List.getElem_cons_succ, List.getElem_cons_zero, Act.put, List.setIfInBounds_toArray, List.set_cons_zero, List.set_cons_succ]
                      refine wpAnyH_take (i := 7) (v := ?v100) rfl (by kernel_rfl) (by kernel_rfl) (by kernel_rfl) (fun _ _ _ h => h) (Or.inl ⟨rfl, fun w' hw' => ?h100⟩) hHeld ?r100
                      case h100 =>
                        go_simp
                        try with_reducible rfl
                      simp only [List.getElem_toArray, List.getElem_cons_succ, List.getElem_cons_zero, Act.put, List.setIfInBounds_toArray, List.set_cons_zero, List.set_cons_succ]
                      refine wpAnyH_take (i := 8) (v := ?v101) rfl (by kernel_rfl) (by kernel_rfl) (by kernel_rfl) (fun _ _ _ h => h) (Or.inl ⟨rfl, fun w' hw' => ?h101⟩) hHeld ?r101
                      case h101 =>
                        go_simp
                        try with_reducible rfl
                      simp only [List.getElem_toArray, List.getElem_cons_succ, List.getElem_cons_zero, Act.put, List.setIfInBounds_toArray, List.set_cons_zero, List.set_cons_succ]
                      refine wpAnyH_take (i := 9) (v := ?v102) rfl (by kernel_rfl) (by kernel_rfl) (by kernel_rfl) (fun _ _ _ h => h) (Or.inl ⟨rfl, fun w' hw' => ?h102⟩) hHeld ?r102
                      case h102 =>
                        (have d0 := hw'; go_simp)
                        try with_reducible rfl
                      simp only [List.getElem_toArray, List.getElem_cons_succ, List.getElem_cons_zero, Act.put, List.setIfInBounds_toArray, List.set_cons_zero, List.set_cons_succ]
                      refine wpAnyH_take (i := 10) (v := ?v103) rfl (by kernel_rfl) (by kernel_rfl) (by kernel_rfl) (fun _ _ _ h => h) (Or.inl ⟨rfl, fun w' hw' => ?h103⟩) hHeld ?r103
                      case h103 =>
                        go_simp
                        try with_reducible rfl
                      simp only [List.getElem_toArray, List.getElem_cons_succ, List.getElem_cons_zero, Act.put, List.setIfInBounds_toArray, List.set_cons_zero, List.set_cons_succ]
                      refine wpAnyH_take (i := 11) (v := ?v104) rfl (by kernel_rfl) (by kernel_rfl) (by kernel_rfl) (fun _ _ _ h => h) (Or.inl ⟨rfl, fun w' hw' => ?h104⟩) hHeld ?r104
                      case h104 =>
                        go_simp
                        try with_reducible rfl
                      simp only [List.getElem_toArray, List.getElem_cons_succ, List.getElem_cons_zero, Act.put, List.setIfInBounds_toArray, List.set_cons_zero, List.set_cons_succ]
                      refine wpAnyH_take (i := 12) (v := ?v105) rfl (by kernel_rfl) (by kernel_rfl) (by kernel_rfl) (fun _ _ _ h => h) (Or.inl ⟨rfl, fun w' hw' => ?h105⟩) hHeld ?r105
                      case h105 =>
                        (have d0 := hw'; go_simp)
                        try with_reducible rfl
                      simp only [List.getElem_toArray, List.getElem_cons_succ, List.getElem_cons_zero, Act.put, List.setIfInBounds_toArray, List.set_cons_zero, List.set_cons_succ]
                      refine wpAnyH_ready (rs := [13]) (by kernel_rfl) (by simp) ?_
                      refine (AllReadyH.cons rfl (fun K hK => ?_) AllReadyH.nil)
                      go_simp
                      refine (F29.out X HBX.out).mono ?_
                      rintro e v2 ⟨rfl, hb2⟩
                      have K2 := Lib.hid (HBX.out.trans (hb2.mono HBX.out.size))
                      have hS2 := HCE.out v2 K2.out
                      clear hb2
                      refine hK.out _ _ hS2 (fun hHeld => ?_)
                      clear hK K
                      try simp only [List.getElem_toArray, List.getElem_cons_succ, List.getElem_cons_zero, Act.put, List.setIfInBounds_toArray, List.set_cons_zero, List.set_cons_succ]
                      refine wpAnyH_take (i := 14) (v := ?v106) rfl (by kernel_rfl) (by kernel_rfl) (by kernel_rfl) (fun _ _ _ h => h) (Or.inl ⟨rfl, fun w' hw' => ?h106⟩) hHeld ?r106
                      case h106 =>
                        go_simp
                        try with_reducible rfl
                      simp only [List.getElem_toArray, List.getElem_cons_succ, List.getElem_cons_zero, Act.put, List.setIfInBounds_toArray, List.set_cons_zero, List.set_cons_succ]
                      refine wpAnyH_take (i := 15) (v := ?v107) rfl (by kernel_rfl) (by kernel_rfl) (by kernel_rfl) (fun _ _ _ h => h) (Or.inl ⟨rfl, fun w' hw' => ?h107⟩) hHeld ?r107
                      case h107 =>
                        go_simp
                        try with_reducible rfl
                      simp only [List.getElem_toArray, List.getElem_cons_succ, List.getElem_cons_zero, Act.put, List.setIfInBounds_toArray, List.set_cons_zero, List.set_cons_succ]
                      refine wpAnyH_take (i := 16) (v := ?v108) rfl (by kernel_rfl) (by kernel_rfl) (by kernel_rfl) (fun _ _ _ h => h) (Or.inl ⟨rfl, fun w' hw' => ?h108⟩) hHeld ?r108
                      case h108 =>
                        go_simp
                        try with_reducible rfl
                      simp only [List.getElem_toArray, List.getElem_cons_succ, List.getElem_cons_zero, Act.put, List.setIfInBounds_toArray, List.set_cons_zero, List.set_cons_succ]
                      refine wpAnyH_done (by kernel_rfl) ?_ _
                      refine NoPanic.normal ?_
                      clear hHeld
                      go_wp2_with fail
                      go_ret
                      exact ⟨rfl, HBE.out.trans (K2.out.mono HBE.out.size)⟩
          · have q1 : decide ((x : Int) < (len : Int)) = false := decide_eq_false (by omega)
            clear hgo
            obtain ⟨m, hm⟩ : ∃ m : Nat, m + 1 = i := ⟨i - 1, by omega⟩
            have H0 : Hid (Lp3 w b g i l (.int .i64 0) wr) := ⟨0, os, G, by omega, rfl, HCH.out, HST.out⟩
            clear HCH HST
            go_wp2_with fail
            go_loopw [16] (fun iv wr => Lp3 w b g i l iv wr) (fun iv _ => i - (intOf iv).toNat)
            case atStart => exact H0.out
            case round =>
              clear H0 G
              obtain ⟨y, os, G, hy, rfl, hch, hst⟩ := hrel
              have HCH := Lib.hid hch
              have HST := Lib.hid hst
              clear hch hst
              by_cases hyi : y + 1 < i
              · have q1 : decide ((y : Int) + 1 < (i : Int)) = true := decide_eq_true (by omega)
                obtain ⟨os', hc', ho'⟩ := ch_over HCH.out HST.out.1.hp (by rw [HLN.out]; omega) (show y < l.length by rw [HLN.out]; omega)
                rw [HLN.out, Nat.mod_eq_of_lt hyi] at ho'
                have HC5 := Lib.hid hc'
                have F29 := Lib.hid ho'
                obtain ⟨z, hz⟩ : ∃ z, z = y + 1 := ⟨_, rfl⟩
                have hzy : (y : Int) + 1 = (z : Int) := by omega
                have hzi : z < i := by omega
                have hyy : y < i := by omega
                rw [← hz] at F29
                have HCE : Hid (∀ (W : World) (os : List Ob), (∃ G, St w W b g G os l) → W.cell? ⟨g, y, none⟩ = some (.int .i64 (l.getD y 0)) ∧ W.cell? ⟨g, z, none⟩ = some (.int .i64 (l.getD z 0))) := fun W _ h => by
                  obtain ⟨G, h⟩ := h
                  have hln := HLN.out
                  exact ⟨h.cellD y (by omega), h.cellD z (by omega)⟩
                generalize l.getD y 0 = ly at F29 HCE
                generalize l.getD z 0 = lz at F29 HCE
                have HZ := Lib.hid hz
                clear hc' ho' hz
                go_upto_region 21 with fail
                refine wp_region_noPanic ?_
                have hbx := (Below.refl wr.heap.size wr).drew
                refine wp_region_held_drew (S := fun W => W.cell? ⟨g, y, none⟩ = some (.int .i64 ly) ∧ W.cell? ⟨g, z, none⟩ = some (.int .i64 lz)) (by kernel_rfl) (HCE.out _ os ⟨G, HST.out.below hbx⟩) (fun hHeld => ?_)
                generalize wr.drew = X at hHeld hbx ⊢
                have HBX := Lib.hid hbx
                clear hbx
                refine wpAnyH_take (i := 0) (v := ?v109) rfl (by kernel_rfl) (by kernel_rfl) (by kernel_rfl) (fun _ _ _ h => h) (Or.inl ⟨rfl, fun w' hw' => ?h109⟩) hHeld ?r109
                case h109 =>
                  go_simp
                  try with_reducible rfl
                simp only [List.getElem_toArray, List.getElem_cons_succ, List.getElem_cons_zero, Act.put, List.setIfInBounds_toArray, List.set_cons_zero, List.set_cons_succ]
                refine wpAnyH_take (i := 1) (v := ?v110) rfl (by kernel_rfl) (by kernel_rfl) (by kernel_rfl) (fun _ _ _ h => h) (Or.inl ⟨rfl, fun w' hw' => ?h110⟩) hHeld ?r110
                case h110 =>
                  go_simp
                  try with_reducible rfl
                simp only [List.getElem_toArray, List.getElem_cons_succ, List.getElem_cons_zero, Act.put, List.setIfInBounds_toArray, List.set_cons_zero, List.set_cons_succ]
                refine wpAnyH_take (i := 2) (v := ?v111) rfl (by kernel_rfl) (by kernel_rfl) (by kernel_rfl) (fun _ _ _ h => h) (Or.inl ⟨rfl, fun w' hw' => ?h111⟩) hHeld ?r111
                case h111 =>
                  go_simp
                  try with_reducible rfl
                simp only [List.getElem_toArray, List.getElem_cons_succ, List.getElem_cons_zero, Act.put, List.setIfInBounds_toArray, List.set_cons_zero, List.set_cons_succ]
                refine wpAnyH_take (i := 3) (v := ?v112) rfl (by kernel_rfl) (by kernel_rfl) (by kernel_rfl) (fun _ _ _ h => h) (Or.inl ⟨rfl, fun w' hw' => ?h112⟩) hHeld ?r112
                case h112 =>
                  go_simp
                  try with_reducible rfl
                simp only [List.getElem_toArray, List.getElem_cons_succ, List.getElem_cons_zero, Act.put, List.setIfInBounds_toArray, List.set_cons_zero, List.set_cons_succ]
                refine wpAnyH_take (i := 4) (v := ?v113) rfl (by kernel_rfl) (by kernel_rfl) (by kernel_rfl) (fun _ _ _ h => h) (Or.inl ⟨rfl, fun w' hw' => ?h113⟩) hHeld ?r113
                case h113 =>
                  (obtain ⟨d0, _⟩ := hw'; go_simp)
                  try with_reducible rfl
                simp only [List.getElem_toArray, List.getElem_cons_succ, List.getElem_cons_zero, Act.put, List.setIfInBounds_toArray, List.set_cons_zero, List.set_cons_succ]
                refine wpAnyH_take (i := 5) (v := ?v114) rfl (by kernel_rfl) (by kernel_rfl) (by kernel_rfl) (fun _ _ _ h => h) (Or.inl ⟨rfl, fun w' hw' => ?h114⟩) hHeld ?r114
                case h114 =>
                  go_simp
                  try with_reducible rfl
                simp only [List.getElem_toArray, List.getElem_cons_succ, List.getElem_cons_zero, Act.put, List.setIfInBounds_toArray, List.set_cons_zero, List.set_cons_succ]
                refine wpAnyH_take (i := 6) (v := ?v115) rfl (by kernel_rfl) (by kernel_rfl) (by kernel_rfl) (fun _ _ _ h => h) (Or.inl ⟨rfl, fun w' hw' => ?h115⟩) hHeld ?r115
                case h115 =>
                  go_simp
                  try with_reducible rfl
                simp only [List.getElem_toArray, List.getElem_cons_succ, List.getElem_cons_zero, Act.put, List.setIfInBounds_toArray, List.set_cons_zero, List.set_cons_succ]
                refine wpAnyH_take (i := 7) (v := Value.int .i64 (z : Int)) rfl (by kernel_rfl) (by kernel_rfl) (by kernel_rfl) (fun _ _ _ h => h) (Or.inl ⟨rfl, fun w' hw' => ?_⟩) hHeld ?_
                · (go_simp; try (rw [IntKind.wrap_i64]; omega))
                simp only [List.getElem_toArray, List.getElem_cons_succ, List.getElem_cons_zero, Act.put, List.setIfInBounds_toArray, List.set_cons_zero, List.set_cons_succ]
                refine wpAnyH_take (i := 8) (v := ?v117) rfl (by kernel_rfl) (by kernel_rfl) (by kernel_rfl) (fun _ _ _ h => h) (Or.inl ⟨rfl, fun w' hw' => ?h117⟩) hHeld ?r117
                case h117 =>
                  go_simp
                  try with_reducible rfl
                simp only [List.getElem_toArray, List.getElem_cons_succ, List.getElem_cons_zero, Act.put, List.setIfInBounds_toArray, List.set_cons_zero, List.set_cons_succ]
                refine wpAnyH_take (i := 9) (v := ?v118) rfl (by kernel_rfl) (by kernel_rfl) (by kernel_rfl) (fun _ _ _ h => h) (Or.inl ⟨rfl, fun w' hw' => ?h118⟩) hHeld ?r118
                case h118 =>
                  (obtain ⟨_, d0⟩ := hw'; go_simp)
                  try with_reducible rfl
                simp only [List.getElem_toArray, List.getElem_cons_succ, List.getElem_cons_zero, Act.put, List.setIfInBounds_toArray, List.set_cons_zero, List.set_cons_succ]
                refine wpAnyH_ready (rs := [10]) (by kernel_rfl) (by simp) ?_
                refine (AllReadyH.cons rfl (fun K hK => ?_) AllReadyH.nil)
                go_simp
                refine (F29.out X HBX.out).mono ?_
                rintro e w5 hr
                obtain ⟨rfl, h5⟩ := (HST.out.below HBX.out).turn hr
                have H5 := Lib.hid h5
                have hS5 := HCE.out w5 _ h5
                clear hr h5 F29
                refine hK.out _ _ hS5 (fun hHeld => ?_)
                clear hK K
                try simp only [List.getElem_toArray, List.getElem_cons_succ, List.getElem_cons_zero, Act.put, List.setIfInBounds_toArray, List.set_cons_zero, List.set_cons_succ]
                refine wpAnyH_take (i := 11) (v := ?v119) rfl (by kernel_rfl) (by kernel_rfl) (by kernel_rfl) (fun _ _ _ h => h) (Or.inl ⟨rfl, fun w' hw' => ?h119⟩) hHeld ?r119
                case h119 =>
                  go_simp
                  try with_reducible rfl
                simp only [List.getElem_toArray, List.getElem_cons_succ, List.getElem_cons_zero, Act.put, List.setIfInBounds_toArray, List.set_cons_zero, List.set_cons_succ]
                refine wpAnyH_done (by kernel_rfl) ?_ _
                refine NoPanic.normal ?_
                clear hHeld
                have HR : Hid (Lp3 w b g i l (.int .i64 (z : Int)) w5) := by
                  obtain ⟨G5, h5⟩ := H5.out
                  exact ⟨z, os', G5, by omega, rfl, by rw [HZ.out]; exact HC5.out, h5⟩
                clear HCE H5 HC5
                go_wp2_with fail
                go_roundw
                case rel => exact HR.out
                case measure => simp [intOf]; omega
              · obtain rfl : y = m := by omega
                have q1 : decide ((y : Int) + 1 < (i : Int)) = false := decide_eq_false (by omega)
                have hnm : (i : Int) - 1 = (y : Int) := by omega
                have hyy : y < i := by omega
                have h0i : 0 < i := by omega
                cases ring with
                | false =>
                  go_upto_region 23 with fail
                  refine wp_region_noPanic ?_
                  have hbx := (Below.refl wr.heap.size wr).drew
                  refine wp_region_held_drew (S := fun _ => True) (by kernel_rfl) trivial (fun hHeld => ?_)
                  generalize wr.drew = w5 at hHeld hbx ⊢
                  have HP5 := Lib.hid hbx
                  have HST5 := Lib.hid (HST.out.below hbx)
                  have HCH5 := HCH
                  clear hbx HST HCH
                  refine wpAnyH_take (i := 0) (v := ?v120) rfl (by kernel_rfl) (by kernel_rfl) (by kernel_rfl) (fun _ _ _ h => h) (Or.inl ⟨rfl, fun w' hw' => ?h120⟩) hHeld ?r120
                  case h120 =>
                    go_simp
                    try with_reducible rfl
                  simp only [List.getElem_toArray, List.getElem_cons_succ, List.getElem_cons_zero, Act.put, List.setIfInBounds_toArray, List.set_cons_zero, List.set_cons_succ]
                  refine wpAnyH_take (i := 1) (v := ?v121) rfl (by kernel_rfl) (by kernel_rfl) (by kernel_rfl) (fun _ _ _ h => h) (Or.inl ⟨rfl, fun w' hw' => ?h121⟩) hHeld ?r121
                  case h121 =>
                    go_simp
                    try with_reducible rfl
                  simp only [List.getElem_toArray, List.getElem_cons_succ, List.getElem_cons_zero, Act.put, List.setIfInBounds_toArray, List.set_cons_zero, List.set_cons_succ]
                  refine wpAnyH_take (i := 2) (v := undef) rfl (by kernel_rfl) (by kernel_rfl) (by kernel_rfl) (fun _ _ _ h => h) (Or.inr ⟨rfl, rfl⟩) hHeld ?_
                  simp only [List.getElem_toArray, List.getElem_cons_succ, List.getElem_cons_zero, Act.put, List.setIfInBounds_toArray, List.set_cons_zero, List.set_cons_succ]
                  refine wpAnyH_take (i := 3) (v := undef) rfl (by kernel_rfl) (by kernel_rfl) (by kernel_rfl) (fun _ _ _ h => h) (Or.inr ⟨rfl, rfl⟩) hHeld ?_
                  simp only [List.getElem_toArray, List.getElem_cons_succ, List.getElem_cons_zero, Act.put, List.setIfInBounds_toArray, List.set_cons_zero, List.set_cons_succ]
                  refine wpAnyH_take (i := 4) (v := undef) rfl (by kernel_rfl) (by kernel_rfl) (by kernel_rfl) (fun _ _ _ h => h) (Or.inr ⟨rfl, rfl⟩) hHeld ?_
                  simp only [List.getElem_toArray, List.getElem_cons_succ, List.getElem_cons_zero, Act.put, List.setIfInBounds_toArray, List.set_cons_zero, List.set_cons_succ]
                  refine wpAnyH_take (i := 5) (v := undef) rfl (by kernel_rfl) (by kernel_rfl) (by kernel_rfl) (fun _ _ _ h => h) (Or.inr ⟨rfl, rfl⟩) hHeld ?_
                  simp only [List.getElem_toArray, List.getElem_cons_succ, List.getElem_cons_zero, Act.put, List.setIfInBounds_toArray, List.set_cons_zero, List.set_cons_succ]
                  refine wpAnyH_take (i := 6) (v := undef) rfl (by kernel_rfl) (by kernel_rfl) (by kernel_rfl) (fun _ _ _ h => h) (Or.inr ⟨rfl, rfl⟩) hHeld ?_
                  simp only [List.getElem_toArray, List.getElem_cons_succ, List.getElem_cons_zero, Act.put, List.setIfInBounds_toArray, List.set_cons_zero, List.set_cons_succ]
                  refine wpAnyH_take (i := 7) (v := undef) rfl (by kernel_rfl) (by kernel_rfl) (by kernel_rfl) (fun _ _ _ h => h) (Or.inr ⟨rfl, rfl⟩) hHeld ?_
                  simp only [List.getElem_toArray, List.getElem_cons_succ, List.getElem_cons_zero, Act.put, List.setIfInBounds_toArray, List.set_cons_zero, List.set_cons_succ]
                  refine wpAnyH_take (i := 8) (v := undef) rfl (by kernel_rfl) (by kernel_rfl) (by kernel_rfl) (fun _ _ _ h => h) (Or.inr ⟨rfl, rfl⟩) hHeld ?_
                  simp only [List.getElem_toArray, List.getElem_cons_succ, List.getElem_cons_zero, Act.put, List.setIfInBounds_toArray, List.set_cons_zero, List.set_cons_succ]
                  refine wpAnyH_take (i := 9) (v := undef) rfl (by kernel_rfl) (by kernel_rfl) (by kernel_rfl) (fun _ _ _ h => h) (Or.inr ⟨rfl, rfl⟩) hHeld ?_
                  simp only [List.getElem_toArray, List.getElem_cons_succ, List.getElem_cons_zero, Act.put, List.setIfInBounds_toArray, List.set_cons_zero, List.set_cons_succ]
                  refine wpAnyH_take (i := 10) (v := undef) rfl (by kernel_rfl) (by kernel_rfl) (by kernel_rfl) (fun _ _ _ h => h) (Or.inr ⟨rfl, rfl⟩) hHeld ?_
                  simp only [List.getElem_toArray, List.getElem_cons_succ, List.getElem_cons_zero, Act.put, List.setIfInBounds_toArray, List.set_cons_zero, List.set_cons_succ]
                  refine wpAnyH_take (i := 11) (v := undef) rfl (by kernel_rfl) (by kernel_rfl) (by kernel_rfl) (fun _ _ _ h => h) (Or.inr ⟨rfl, rfl⟩) hHeld ?_
                  simp only [List.getElem_toArray, List.getElem_cons_succ, List.getElem_cons_zero, Act.put, List.setIfInBounds_toArray, List.set_cons_zero, List.set_cons_succ]
                  refine wpAnyH_take (i := 12) (v := undef) rfl (by kernel_rfl) (by kernel_rfl) (by kernel_rfl) (fun _ _ _ h => h) (Or.inr ⟨rfl, rfl⟩) hHeld ?_
                  simp only [List.getElem_toArray, List.getElem_cons_succ, List.getElem_cons_zero, Act.put, List.setIfInBounds_toArray, List.set_cons_zero, List.set_cons_succ]
                  refine wpAnyH_take (i := 13) (v := ?v133) rfl (by kernel_rfl) (by kernel_rfl) (by kernel_rfl) (fun _ _ _ h => h) (Or.inl ⟨rfl, fun w' hw' => ?h133⟩) hHeld ?r133
                  case h133 =>
                    go_simp
                    try with_reducible rfl
                  simp only [List.getElem_toArray, List.getElem_cons_succ, List.getElem_cons_zero, Act.put, List.setIfInBounds_toArray, List.set_cons_zero, List.set_cons_succ]
                  refine wpAnyH_done (by kernel_rfl) ?_ _
                  refine NoPanic.normal ?_
                  clear hHeld
                  clear HP5
                  obtain ⟨Z, hZ⟩ : ∃ Z, Z = w5 := ⟨_, rfl⟩
                  rw [← hZ] at HST5 ⊢
                  clear hZ
                  have FOL := Lib.hid (fun W (hb : Below Z.heap.size Z W) j (hj : j < l.length) => follow_o (HST5.out.1.below hb).hp l[j] (by have := ch_bd HCH5.out HST5.out.1.hp hj; omega) (by have := ch_bd HCH5.out HST5.out.1.hp hj; omega))
                  have FTG := Lib.hid (fun W (hb : Below Z.heap.size Z W) j (hj : j < l.length) => tagm_any (HST5.out.1.below hb).hp l[j] (by have := ch_bd HCH5.out HST5.out.1.hp hj; omega) (by have := ch_bd HCH5.out HST5.out.1.hp hj; omega))
                  have H0 : Hid (Lp4 Z i (.int .i64 0) Z) := ⟨0, Nat.zero_le _, rfl, Below.refl _ _⟩
                  go_wp2_with fail
                  go_loopw [17] (fun iv wr => Lp4 Z i iv wr) (fun iv _ => i - (intOf iv).toNat)
                  case atStart => exact H0.out
                  case round =>
                    clear H0
                    obtain ⟨j, hj, rfl, hbel⟩ := hrel
                    have HB := Lib.hid hbel
                    clear hbel
                    by_cases hji : j < i
                    · have q1 : decide ((j : Int) < (i : Int)) = true := decide_eq_true (by omega)
                      have hjl : j < l.length := by rw [HLN.out]; exact hji
                      have cj := (HST5.out.below HB.out).cellD j hjl
                      have cm := (HST5.out.below HB.out).cellD y (by rw [HLN.out]; omega)
                      have FO := Lib.hid (fun W (hb : Below Z.heap.size Z W) => FOL.out W hb j hjl)
                      have FT := Lib.hid (fun W (hb : Below Z.heap.size Z W) => FTG.out W hb j hjl)
                      rw [ch_tag HCH5.out hjl] at FT
                      rw [ch_end (i := y) (HST5.out.1.hp.2.2.1) (HST5.out.1.hp.2.1) HCH5.out (by rw [HLN.out]; omega) hjl] at FO
                      rw [← getD_at hjl] at FO FT
                      generalize l.getD j 0 = lj at FO FT cj
                      generalize hlm : l.getD y 0 = lm at FO cm
                      clear hlm
                      by_cases hj1 : j + 1 < i
                      · have q2 : decide ((j : Int) + 1 < (i : Int)) = true := decide_eq_true (by omega)
                        rw [if_pos (by omega)] at FT
                        go_wp2_with fail
                        refine (FO.out wr HB.out).mono ?_
                        rintro e w6 ⟨rfl, hb6⟩
                        have B6 := Lib.hid (HB.out.trans (hb6.mono HB.out.size))
                        have cj6 := (hb6.cell (World.block_lt_of_cell? _ _ cj)).trans cj
                        clear hb6
                        go_wp2_with fail
                        refine (FT.out w6 B6.out).mono ?_
                        rintro e w7 ⟨rfl, hb7⟩
                        have HR : Hid (Lp4 Z i (.int .i64 ((j : Int) + 1)) w7) := ⟨j + 1, by omega, by go_num, B6.out.trans (hb7.mono B6.out.size)⟩
                        clear hb7
                        go_wp2_with fail
                        go_roundw
                        case rel => exact HR.out
                        case measure => simp [intOf]; omega
                      · have q2 : decide ((j : Int) + 1 < (i : Int)) = false := decide_eq_false (by omega)
                        rw [if_neg (by omega)] at FT
                        go_wp2_with fail
                        refine (FO.out wr HB.out).mono ?_
                        rintro e w6 ⟨rfl, hb6⟩
                        have B6 := Lib.hid (HB.out.trans (hb6.mono HB.out.size))
                        have cj6 := (hb6.cell (World.block_lt_of_cell? _ _ cj)).trans cj
                        clear hb6
                        go_wp2_with fail
                        refine (FT.out w6 B6.out).mono ?_
                        rintro e w7 ⟨rfl, hb7⟩
                        have HR : Hid (Lp4 Z i (.int .i64 ((j : Int) + 1)) w7) := ⟨j + 1, by omega, by go_num, B6.out.trans (hb7.mono B6.out.size)⟩
                        clear hb7
                        go_wp2_with fail
                        go_roundw
                        case rel => exact HR.out
                        case measure => simp [intOf]; omega
                    · obtain rfl : j = i := by omega
                      have q1 : decide ((j : Int) < (j : Int)) = false := decide_eq_false (by omega)
                      have F23 : Hid (∀ W, Below wr.heap.size wr W → Calls Try.prog 23 #[.pointer (some ⟨b, 0, none⟩)] W fun e w' => e = .returned (.int .i64 (2 * (j : Int))) ∧ W = w') := fun W hb => by
                        have := used_any (HST5.out.1.below (HB.out.trans (hb.mono HB.out.size))).hp.1
                        rw [wds_length, HCH5.out.2.1, HLN.out] at this
                        rw [show 2 * (j : Int) = ((2 * j : Nat) : Int) by omega]
                        exact this
                      have F29 := Lib.hid (fun W (hb : Below wr.heap.size wr W) => over_no (HST5.out.1.below (HB.out.trans (hb.mono HB.out.size))).hp (l.getD 0 0) (l.getD 0 0) ((L0B HCH5.out HST5.out.1.hp (by rw [HLN.out]; omega)).1) ((L0B HCH5.out HST5.out.1.hp (by rw [HLN.out]; omega)).2) ((L0B HCH5.out HST5.out.1.hp (by rw [HLN.out]; omega)).1) ((L0B HCH5.out HST5.out.1.hp (by rw [HLN.out]; omega)).2) (.inl rfl))
                      have HCE : Hid (∀ W, Below wr.heap.size wr W → W.cell? ⟨g, 0, none⟩ = some (.int .i64 (l.getD 0 0))) := fun W hb => (HST5.out.below (HB.out.trans (hb.mono HB.out.size))).cellD 0 (by rw [HLN.out]; omega)
                      generalize l.getD 0 0 = l0 at F29 HCE
                      have HBE : Hid (Below w.heap.size w wr) := (HST5.out.below HB.out).1.bel
                      go_upto_region 33 with fail
                      refine wp_region_noPanic ?_
                      have hbx := (Below.refl wr.heap.size wr).drew
                      refine wp_region_held_drew (S := fun W => W.cell? ⟨g, 0, none⟩ = some (.int .i64 l0)) (by kernel_rfl) (HCE.out _ hbx) (fun hHeld => ?_)
                      generalize wr.drew = X at hHeld hbx ⊢
                      have HBX := Lib.hid hbx
                      clear hbx
                      refine wpAnyH_take (i := 0) (v := ?v147) rfl (by kernel_rfl) (by kernel_rfl) (by kernel_rfl) (fun _ _ _ h => h) (Or.inl ⟨rfl, fun w' hw' => ?h147⟩) hHeld ?r147
                      case h147 =>
                        go_simp
                        try with_reducible rfl
                      simp only [List.getElem_toArray, List.getElem_cons_succ, List.getElem_cons_zero, Act.put, List.setIfInBounds_toArray, List.set_cons_zero, List.set_cons_succ]
                      refine wpAnyH_take (i := 2) (v := ?v148) rfl (by kernel_rfl) (by kernel_rfl) (by kernel_rfl) (fun _ _ _ h => h) (Or.inl ⟨rfl, fun w' hw' => ?h148⟩) hHeld ?r148
                      case h148 =>
                        go_simp
                        try with_reducible rfl
                      simp only [List.getElem_toArray, List.getElem_cons_succ, List.getElem_cons_zero, Act.put, List.setIfInBounds_toArray, List.set_cons_zero, List.set_cons_succ]
                      refine wpAnyH_take (i := 3) (v := Value.int .i64 (2 * (j : Int))) rfl (by kernel_rfl) (by kernel_rfl) (by kernel_rfl) (fun _ _ _ h => h) (Or.inl ⟨rfl, fun w' hw' => ?_⟩) hHeld ?_
                      · (go_simp; try (rw [IntKind.wrap_i64]; omega))
                      simp only [List.getElem_toArray, List.getElem_cons_succ, List.getElem_cons_zero, Act.put, List.setIfInBounds_toArray, List.set_cons_zero, List.set_cons_succ]
                      refine wpAnyH_ready (rs := [1]) (by kernel_rfl) (by simp) ?_
                      refine (AllReadyH.cons rfl (fun K hK => ?_) AllReadyH.nil)
                      go_simp
                      refine (F23.out X HBX.out).mono ?_
                      rintro e v1 ⟨rfl, rfl⟩
                      refine hK.out _ _ hHeld (fun hHeld => ?_)
                      clear hK K
                      try simp only [List.getElem_toArray, List.getElem_cons_succ, List.getElem_cons_zero, Act.put, List.setIfInBounds_toArray, List.set_cons_zero, List.set_cons_succ]
                      refine wpAnyH_take (i := 4) (v := Value.bool true) rfl (by kernel_rfl) (by kernel_rfl) (by kernel_rfl) (fun _ _ _ h => h) (Or.inl ⟨rfl, fun w' hw' => ?_⟩) hHeld ?_
                      · go_simp
                      simp only [List.getElem_toArray, List.getElem_cons_succ, List.getElem_cons_zero, Act.put, List.setIfInBounds_toArray, List.set_cons_zero, List.set_cons_succ]
                      refine wpAnyH_take (i := 5) (v := Value.bool true) rfl (by kernel_rfl) (by kernel_rfl) (by kernel_rfl) (fun _ _ _ h => h) (Or.inl ⟨rfl, fun w' hw' => ?_⟩) hHeld ?_
                      · go_simp
                      simp only [List.getElem_toArray, List.getElem_cons_succ, List.getElem_cons_zero, Act.put, List.setIfInBounds_toArray, List.set_cons_zero, List.set_cons_succ]
                      refine wpAnyH_take (i := 6) (v := ?v152) rfl (by kernel_rfl) (by kernel_rfl) (by kernel_rfl) (fun _ _ _ h => h) (Or.inl ⟨rfl, fun w' hw' => ?h152⟩) hHeld ?r152
                      case h152 =>
                        go_simp
                        try with_reducible rfl
                      simp only [List.getElem_toArray, List.getElem_cons_succ, List.getElem_cons_zero, Act.put, List.setIfInBounds_toArray, List.set_cons_zero, List.set_cons_succ]
                      refine wpAnyH_take (i := 7) (v := ?v153) rfl (by kernel_rfl) (by kernel_rfl) (by kernel_rfl) (fun _ _ _ h => h) (Or.inl ⟨rfl, fun w' hw' => ?h153⟩) hHeld ?r153
                      case h153 =>
                        go_simp
                        try with_reducible rfl
                      simp only [List.getElem_toArray, List.getElem_cons_succ, List.getElem_cons_zero, Act.put, List.setIfInBounds_toArray, List.set_cons_zero, List.set_cons_succ]
                      refine wpAnyH_take (i := 8) (v := ?v154) rfl (by kernel_rfl) (by kernel_rfl) (by kernel_rfl) (fun _ _ _ h => h) (Or.inl ⟨rfl, fun w' hw' => ?h154⟩) hHeld ?r154
                      case h154 =>
                        go_simp
                        try with_reducible rfl
                      simp only [List.getElem_toArray, List.getElem_cons_succ, List.getElem_cons_zero, Act.put, List.setIfInBounds_toArray, List.set_cons_zero, List.set_cons_succ]
                      refine wpAnyH_take (i := 9) (v := ?v155) rfl (by kernel_rfl) (by kernel_rfl) (by kernel_rfl) (fun _ _ _ h => h) (Or.inl ⟨rfl, fun w' hw' => ?h155⟩) hHeld ?r155
                      case h155 =>
                        (have d0 := hw'; go_simp)
                        try with_reducible rfl
                      simp only [List.getElem_toArray, List.getElem_cons_succ, List.getElem_cons_zero, Act.put, List.setIfInBounds_toArray, List.set_cons_zero, List.set_cons_succ]
                      refine wpAnyH_take (i := 10) (v := ?v156) rfl (by kernel_rfl) (by kernel_rfl) (by kernel_rfl) (fun _ _ _ h => h) (Or.inl ⟨rfl, fun w' hw' => ?h156⟩) hHeld ?r156
                      case h156 =>
                        go_simp
                        try with_reducible rfl
                      simp only [List.getElem_toArray, List.getElem_cons_succ, List.getElem_cons_zero, Act.put, List.setIfInBounds_toArray, List.set_cons_zero, List.set_cons_succ]
                      refine wpAnyH_take (i := 11) (v := ?v157) rfl (by kernel_rfl) (by kernel_rfl) (by kernel_rfl) (fun _ _ _ h => h) (Or.inl ⟨rfl, fun w' hw' => ?h157⟩) hHeld ?r157
                      case h157 =>
                        go_simp
                        try with_reducible rfl
                      simp only [List.getElem_toArray, List.getElem_cons_succ, List.getElem_cons_zero, Act.put, List.setIfInBounds_toArray, List.set_cons_zero, List.set_cons_succ]
                      refine wpAnyH_take (i := 12) (v := ?v158) rfl (by kernel_rfl) (by kernel_rfl) (by kernel_rfl) (fun _ _ _ h => h) (Or.inl ⟨rfl, fun w' hw' => ?h158⟩) hHeld ?r158
                      case h158 =>
                        (have d0 := hw'; go_simp)
                        try with_reducible rfl
                      simp only [List.getElem_toArray, List.getElem_cons_succ, List.getElem_cons_zero, Act.put, List.setIfInBounds_toArray, List.set_cons_zero, List.set_cons_succ]
                      refine wpAnyH_ready (rs := [13]) (by kernel_rfl) (by simp) ?_
                      refine (AllReadyH.cons rfl (fun K hK => ?_) AllReadyH.nil)
                      go_simp
                      refine (F29.out X HBX.out).mono ?_
                      rintro e v2 ⟨rfl, hb2⟩
                      have K2 := Lib.hid (HBX.out.trans (hb2.mono HBX.out.size))
                      have hS2 := HCE.out v2 K2.out
                      clear hb2
                      refine hK.out _ _ hS2 (fun hHeld => ?_)
                      clear hK K
                      try simp only [List.getElem_toArray, List.getElem_cons_succ, List.getElem_cons_zero, Act.put, List.setIfInBounds_toArray, List.set_cons_zero, List.set_cons_succ]
                      refine wpAnyH_take (i := 14) (v := ?v159) rfl (by kernel_rfl) (by kernel_rfl) (by kernel_rfl) (fun _ _ _ h => h) (Or.inl ⟨rfl, fun w' hw' => ?h159⟩) hHeld ?r159
                      case h159 =>
                        go_simp
                        try with_reducible rfl
                      simp only [List.getElem_toArray, List.getElem_cons_succ, List.getElem_cons_zero, Act.put, List.setIfInBounds_toArray, List.set_cons_zero, List.set_cons_succ]
                      refine wpAnyH_take (i := 15) (v := ?v160) rfl (by kernel_rfl) (by kernel_rfl) (by kernel_rfl) (fun _ _ _ h => h) (Or.inl ⟨rfl, fun w' hw' => ?h160⟩) hHeld ?r160
                      case h160 =>
                        go_simp
                        try with_reducible rfl
                      simp only [List.getElem_toArray, List.getElem_cons_succ, List.getElem_cons_zero, Act.put, List.setIfInBounds_toArray, List.set_cons_zero, List.set_cons_succ]
                      refine wpAnyH_take (i := 16) (v := ?v161) rfl (by kernel_rfl) (by kernel_rfl) (by kernel_rfl) (fun _ _ _ h => h) (Or.inl ⟨rfl, fun w' hw' => ?h161⟩) hHeld ?r161
                      case h161 =>
                        go_simp
                        try with_reducible rfl
                      simp only [List.getElem_toArray, List.getElem_cons_succ, List.getElem_cons_zero, Act.put, List.setIfInBounds_toArray, List.set_cons_zero, List.set_cons_succ]
                      refine wpAnyH_done (by kernel_rfl) ?_ _
                      refine NoPanic.normal ?_
                      clear hHeld
                      go_wp2_with fail
                      go_ret
                      exact ⟨rfl, HBE.out.trans (K2.out.mono HBE.out.size)⟩
                | true =>
                  obtain ⟨os', hc', ho'⟩ := ch_over HCH.out HST.out.1.hp (by rw [HLN.out]; omega) (show y < l.length by rw [HLN.out]; omega)
                  rw [HLN.out, hm, Nat.mod_self] at ho'
                  rw [hm] at hc'
                  have HC5 := Lib.hid hc'
                  have F29 := Lib.hid ho'
                  have HCE : Hid (∀ (W : World) (os : List Ob), (∃ G, St w W b g G os l) → W.cell? ⟨g, y, none⟩ = some (.int .i64 (l.getD y 0)) ∧ W.cell? ⟨g, 0, none⟩ = some (.int .i64 (l.getD 0 0))) := fun W _ h => by
                    obtain ⟨G, h⟩ := h
                    have hln := HLN.out
                    exact ⟨h.cellD y (by omega), h.cellD 0 (by omega)⟩
                  generalize l.getD y 0 = ly at F29 HCE
                  generalize l.getD 0 0 = lz at F29 HCE
                  clear hc' ho'
                  go_upto_region 23 with fail
                  refine wp_region_noPanic ?_
                  have hbx := (Below.refl wr.heap.size wr).drew
                  refine wp_region_held_drew (S := fun W => W.cell? ⟨g, y, none⟩ = some (.int .i64 ly) ∧ W.cell? ⟨g, 0, none⟩ = some (.int .i64 lz)) (by kernel_rfl) (HCE.out _ os ⟨G, HST.out.below hbx⟩) (fun hHeld => ?_)
                  generalize wr.drew = X at hHeld hbx ⊢
                  have HBX := Lib.hid hbx
                  clear hbx
                  refine wpAnyH_take (i := 0) (v := ?v134) rfl (by kernel_rfl) (by kernel_rfl) (by kernel_rfl) (fun _ _ _ h => h) (Or.inl ⟨rfl, fun w' hw' => ?h134⟩) hHeld ?r134
                  case h134 =>
                    go_simp
                    try with_reducible rfl
                  simp only [List.getElem_toArray, List.getElem_cons_succ, List.getElem_cons_zero, Act.put, List.setIfInBounds_toArray, List.set_cons_zero, List.set_cons_succ]
                  refine wpAnyH_take (i := 1) (v := ?v135) rfl (by kernel_rfl) (by kernel_rfl) (by kernel_rfl) (fun _ _ _ h => h) (Or.inl ⟨rfl, fun w' hw' => ?h135⟩) hHeld ?r135
                  case h135 =>
                    go_simp
                    try with_reducible rfl
                  simp only [List.getElem_toArray, List.getElem_cons_succ, List.getElem_cons_zero, Act.put, List.setIfInBounds_toArray, List.set_cons_zero, List.set_cons_succ]
                  refine wpAnyH_take (i := 2) (v := ?v136) rfl (by kernel_rfl) (by kernel_rfl) (by kernel_rfl) (fun _ _ _ h => h) (Or.inl ⟨rfl, fun w' hw' => ?h136⟩) hHeld ?r136
                  case h136 =>
                    go_simp
                    try with_reducible rfl
                  simp only [List.getElem_toArray, List.getElem_cons_succ, List.getElem_cons_zero, Act.put, List.setIfInBounds_toArray, List.set_cons_zero, List.set_cons_succ]
                  refine wpAnyH_take (i := 3) (v := ?v137) rfl (by kernel_rfl) (by kernel_rfl) (by kernel_rfl) (fun _ _ _ h => h) (Or.inl ⟨rfl, fun w' hw' => ?h137⟩) hHeld ?r137
                  case h137 =>
                    go_simp
                    try with_reducible rfl
                  simp only [List.getElem_toArray, List.getElem_cons_succ, List.getElem_cons_zero, Act.put, List.setIfInBounds_toArray, List.set_cons_zero, List.set_cons_succ]
                  refine wpAnyH_take (i := 4) (v := ?v138) rfl (by kernel_rfl) (by kernel_rfl) (by kernel_rfl) (fun _ _ _ h => h) (Or.inl ⟨rfl, fun w' hw' => ?h138⟩) hHeld ?r138
                  case h138 =>
                    go_simp
                    try with_reducible rfl
                  simp only [List.getElem_toArray, List.getElem_cons_succ, List.getElem_cons_zero, Act.put, List.setIfInBounds_toArray, List.set_cons_zero, List.set_cons_succ]
                  refine wpAnyH_take (i := 5) (v := Value.int .i64 (y : Int)) rfl (by kernel_rfl) (by kernel_rfl) (by kernel_rfl) (fun _ _ _ h => h) (Or.inl ⟨rfl, fun w' hw' => ?_⟩) hHeld ?_
                  · (go_simp; try (rw [IntKind.wrap_i64]; omega))
                  simp only [List.getElem_toArray, List.getElem_cons_succ, List.getElem_cons_zero, Act.put, List.setIfInBounds_toArray, List.set_cons_zero, List.set_cons_succ]
                  refine wpAnyH_take (i := 6) (v := ?v140) rfl (by kernel_rfl) (by kernel_rfl) (by kernel_rfl) (fun _ _ _ h => h) (Or.inl ⟨rfl, fun w' hw' => ?h140⟩) hHeld ?r140
                  case h140 =>
                    go_simp
                    try with_reducible rfl
                  simp only [List.getElem_toArray, List.getElem_cons_succ, List.getElem_cons_zero, Act.put, List.setIfInBounds_toArray, List.set_cons_zero, List.set_cons_succ]
                  refine wpAnyH_take (i := 7) (v := ?v141) rfl (by kernel_rfl) (by kernel_rfl) (by kernel_rfl) (fun _ _ _ h => h) (Or.inl ⟨rfl, fun w' hw' => ?h141⟩) hHeld ?r141
                  case h141 =>
                    (obtain ⟨d0, _⟩ := hw'; go_simp)
                    try with_reducible rfl
                  simp only [List.getElem_toArray, List.getElem_cons_succ, List.getElem_cons_zero, Act.put, List.setIfInBounds_toArray, List.set_cons_zero, List.set_cons_succ]
                  refine wpAnyH_take (i := 8) (v := ?v142) rfl (by kernel_rfl) (by kernel_rfl) (by kernel_rfl) (fun _ _ _ h => h) (Or.inl ⟨rfl, fun w' hw' => ?h142⟩) hHeld ?r142
                  case h142 =>
                    go_simp
                    try with_reducible rfl
                  simp only [List.getElem_toArray, List.getElem_cons_succ, List.getElem_cons_zero, Act.put, List.setIfInBounds_toArray, List.set_cons_zero, List.set_cons_succ]
                  refine wpAnyH_take (i := 9) (v := ?v143) rfl (by kernel_rfl) (by kernel_rfl) (by kernel_rfl) (fun _ _ _ h => h) (Or.inl ⟨rfl, fun w' hw' => ?h143⟩) hHeld ?r143
                  case h143 =>
                    go_simp
                    try with_reducible rfl
                  simp only [List.getElem_toArray, List.getElem_cons_succ, List.getElem_cons_zero, Act.put, List.setIfInBounds_toArray, List.set_cons_zero, List.set_cons_succ]
                  refine wpAnyH_take (i := 10) (v := ?v144) rfl (by kernel_rfl) (by kernel_rfl) (by kernel_rfl) (fun _ _ _ h => h) (Or.inl ⟨rfl, fun w' hw' => ?h144⟩) hHeld ?r144
                  case h144 =>
                    (obtain ⟨_, d0⟩ := hw'; go_simp)
                    try with_reducible rfl
                  simp only [List.getElem_toArray, List.getElem_cons_succ, List.getElem_cons_zero, Act.put, List.setIfInBounds_toArray, List.set_cons_zero, List.set_cons_succ]
                  refine wpAnyH_ready (rs := [11]) (by kernel_rfl) (by simp) ?_
                  refine (AllReadyH.cons rfl (fun K hK => ?_) AllReadyH.nil)
                  go_simp
                  refine (F29.out X HBX.out).mono ?_
                  rintro e w5 hr
                  obtain ⟨rfl, h5⟩ := (HST.out.below HBX.out).turn hr
                  have H5 := Lib.hid h5
                  have hS5 := HCE.out w5 _ h5
                  clear hr h5 F29
                  refine hK.out _ _ hS5 (fun hHeld => ?_)
                  clear hK K
                  try simp only [List.getElem_toArray, List.getElem_cons_succ, List.getElem_cons_zero, Act.put, List.setIfInBounds_toArray, List.set_cons_zero, List.set_cons_succ]
                  refine wpAnyH_take (i := 12) (v := ?v145) rfl (by kernel_rfl) (by kernel_rfl) (by kernel_rfl) (fun _ _ _ h => h) (Or.inl ⟨rfl, fun w' hw' => ?h145⟩) hHeld ?r145
                  case h145 =>
                    go_simp
                    try with_reducible rfl
                  simp only [List.getElem_toArray, List.getElem_cons_succ, List.getElem_cons_zero, Act.put, List.setIfInBounds_toArray, List.set_cons_zero, List.set_cons_succ]
                  refine wpAnyH_take (i := 13) (v := ?v146) rfl (by kernel_rfl) (by kernel_rfl) (by kernel_rfl) (fun _ _ _ h => h) (Or.inl ⟨rfl, fun w' hw' => ?h146⟩) hHeld ?r146
                  case h146 =>
                    go_simp
                    try with_reducible rfl
                  simp only [List.getElem_toArray, List.getElem_cons_succ, List.getElem_cons_zero, Act.put, List.setIfInBounds_toArray, List.set_cons_zero, List.set_cons_succ]
                  refine wpAnyH_done (by kernel_rfl) ?_ _
                  refine NoPanic.normal ?_
                  clear hHeld
                  obtain ⟨G5, h5⟩ := H5.out
                  have HST5 := Lib.hid h5
                  have HCH5 := HC5
                  have HP5 := HBX
                  clear h5 H5 HCE HST HCH HC5 HBX
                  clear HP5
                  obtain ⟨Z, hZ⟩ : ∃ Z, Z = w5 := ⟨_, rfl⟩
                  rw [← hZ] at HST5 ⊢
                  clear hZ
                  have FOL := Lib.hid (fun W (hb : Below Z.heap.size Z W) j (hj : j < l.length) => follow_o (HST5.out.1.below hb).hp l[j] (by have := ch_bd HCH5.out HST5.out.1.hp hj; omega) (by have := ch_bd HCH5.out HST5.out.1.hp hj; omega))
                  have FTG := Lib.hid (fun W (hb : Below Z.heap.size Z W) j (hj : j < l.length) => tagm_any (HST5.out.1.below hb).hp l[j] (by have := ch_bd HCH5.out HST5.out.1.hp hj; omega) (by have := ch_bd HCH5.out HST5.out.1.hp hj; omega))
                  have H0 : Hid (Lp4 Z i (.int .i64 0) Z) := ⟨0, Nat.zero_le _, rfl, Below.refl _ _⟩
                  go_wp2_with fail
                  go_loopw [17] (fun iv wr => Lp4 Z i iv wr) (fun iv _ => i - (intOf iv).toNat)
                  case atStart => exact H0.out
                  case round =>
                    clear H0
                    obtain ⟨j, hj, rfl, hbel⟩ := hrel
                    have HB := Lib.hid hbel
                    clear hbel
                    by_cases hji : j < i
                    · have q1 : decide ((j : Int) < (i : Int)) = true := decide_eq_true (by omega)
                      have hjl : j < l.length := by rw [HLN.out]; exact hji
                      have cj := (HST5.out.below HB.out).cellD j hjl
                      have cm := (HST5.out.below HB.out).cellD y (by rw [HLN.out]; omega)
                      have FO := Lib.hid (fun W (hb : Below Z.heap.size Z W) => FOL.out W hb j hjl)
                      have FT := Lib.hid (fun W (hb : Below Z.heap.size Z W) => FTG.out W hb j hjl)
                      rw [ch_tag HCH5.out hjl] at FT
                      rw [ch_ring (HST5.out.1.hp.2.2.1) (HST5.out.1.hp.2.1) (by have h := HCH5.out; rw [← HLN.out] at h; exact h) hjl] at FO
                      rw [← getD_at hjl] at FO FT
                      generalize l.getD j 0 = lj at FO FT cj
                      generalize hlm : l.getD y 0 = lm at FO cm
                      clear hlm
                      by_cases hj1 : j + 1 < i
                      · have q2 : decide ((j : Int) + 1 < (i : Int)) = true := decide_eq_true (by omega)
                        rw [if_pos (by omega)] at FT
                        go_wp2_with fail
                        refine (FO.out wr HB.out).mono ?_
                        rintro e w6 ⟨rfl, hb6⟩
                        have B6 := Lib.hid (HB.out.trans (hb6.mono HB.out.size))
                        have cj6 := (hb6.cell (World.block_lt_of_cell? _ _ cj)).trans cj
                        clear hb6
                        go_wp2_with fail
                        refine (FT.out w6 B6.out).mono ?_
                        rintro e w7 ⟨rfl, hb7⟩
                        have HR : Hid (Lp4 Z i (.int .i64 ((j : Int) + 1)) w7) := ⟨j + 1, by omega, by go_num, B6.out.trans (hb7.mono B6.out.size)⟩
                        clear hb7
                        go_wp2_with fail
                        go_roundw
                        case rel => exact HR.out
                        case measure => simp [intOf]; omega
                      · have q2 : decide ((j : Int) + 1 < (i : Int)) = false := decide_eq_false (by omega)
                        rw [if_pos (by omega)] at FT
                        go_wp2_with fail
                        refine (FO.out wr HB.out).mono ?_
                        rintro e w6 ⟨rfl, hb6⟩
                        have B6 := Lib.hid (HB.out.trans (hb6.mono HB.out.size))
                        have cj6 := (hb6.cell (World.block_lt_of_cell? _ _ cj)).trans cj
                        clear hb6
                        go_wp2_with fail
                        refine (FT.out w6 B6.out).mono ?_
                        rintro e w7 ⟨rfl, hb7⟩
                        have HR : Hid (Lp4 Z i (.int .i64 ((j : Int) + 1)) w7) := ⟨j + 1, by omega, by go_num, B6.out.trans (hb7.mono B6.out.size)⟩
                        clear hb7
                        go_wp2_with fail
                        go_roundw
                        case rel => exact HR.out
                        case measure => simp [intOf]; omega
                    · obtain rfl : j = i := by omega
                      have q1 : decide ((j : Int) < (j : Int)) = false := decide_eq_false (by omega)
                      have F23 : Hid (∀ W, Below wr.heap.size wr W → Calls Try.prog 23 #[.pointer (some ⟨b, 0, none⟩)] W fun e w' => e = .returned (.int .i64 (2 * (j : Int))) ∧ W = w') := fun W hb => by
                        have := used_any (HST5.out.1.below (HB.out.trans (hb.mono HB.out.size))).hp.1
                        rw [wds_length, HCH5.out.2.1, HLN.out] at this
                        rw [show 2 * (j : Int) = ((2 * j : Nat) : Int) by omega]
                        exact this
                      have F29 := Lib.hid (fun W (hb : Below wr.heap.size wr W) => over_no (HST5.out.1.below (HB.out.trans (hb.mono HB.out.size))).hp (l.getD 0 0) (l.getD 0 0) ((L0B HCH5.out HST5.out.1.hp (by rw [HLN.out]; omega)).1) ((L0B HCH5.out HST5.out.1.hp (by rw [HLN.out]; omega)).2) ((L0B HCH5.out HST5.out.1.hp (by rw [HLN.out]; omega)).1) ((L0B HCH5.out HST5.out.1.hp (by rw [HLN.out]; omega)).2) (.inl rfl))
                      have HCE : Hid (∀ W, Below wr.heap.size wr W → W.cell? ⟨g, 0, none⟩ = some (.int .i64 (l.getD 0 0))) := fun W hb => (HST5.out.below (HB.out.trans (hb.mono HB.out.size))).cellD 0 (by rw [HLN.out]; omega)
                      generalize l.getD 0 0 = l0 at F29 HCE
                      have HBE : Hid (Below w.heap.size w wr) := (HST5.out.below HB.out).1.bel
                      go_upto_region 33 with fail
                      refine wp_region_noPanic ?_
                      have hbx := (Below.refl wr.heap.size wr).drew
                      refine wp_region_held_drew (S := fun W => W.cell? ⟨g, 0, none⟩ = some (.int .i64 l0)) (by kernel_rfl) (HCE.out _ hbx) (fun hHeld => ?_)
                      generalize wr.drew = X at hHeld hbx ⊢
                      have HBX := Lib.hid hbx
                      clear hbx
                      refine wpAnyH_take (i := 0) (v := ?v162) rfl (by kernel_rfl) (by kernel_rfl) (by kernel_rfl) (fun _ _ _ h => h) (Or.inl ⟨rfl, fun w' hw' => ?h162⟩) hHeld ?r162
                      case h162 =>
                        go_simp
                        try with_reducible rfl
                      simp only [List.getElem_toArray, List.getElem_cons_succ, List.getElem_cons_zero, Act.put, List.setIfInBounds_toArray, List.set_cons_zero, List.set_cons_succ]
                      refine wpAnyH_take (i := 2) (v := ?v163) rfl (by kernel_rfl) (by kernel_rfl) (by kernel_rfl) (fun _ _ _ h => h) (Or.inl ⟨rfl, fun w' hw' => ?h163⟩) hHeld ?r163
                      case h163 =>
                        go_simp
                        try with_reducible rfl
                      simp only [List.getElem_toArray, List.getElem_cons_succ, List.getElem_cons_zero, Act.put, List.setIfInBounds_toArray, List.set_cons_zero, List.set_cons_succ]
                      refine wpAnyH_take (i := 3) (v := Value.int .i64 (2 * (j : Int))) rfl (by kernel_rfl) (by kernel_rfl) (by kernel_rfl) (fun _ _ _ h => h) (Or.inl ⟨rfl, fun w' hw' => ?_⟩) hHeld ?_
                      · (go_simp; try (rw [IntKind.wrap_i64]; omega))
                      simp only [List.getElem_toArray, List.getElem_cons_succ, List.getElem_cons_zero, Act.put, List.setIfInBounds_toArray, List.set_cons_zero, List.set_cons_succ]
                      refine wpAnyH_ready (rs := [1]) (by kernel_rfl) (by simp) ?_
                      refine (AllReadyH.cons rfl (fun K hK => ?_) AllReadyH.nil)
                      go_simp
                      refine (F23.out X HBX.out).mono ?_
                      rintro e v1 ⟨rfl, rfl⟩
                      refine hK.out _ _ hHeld (fun hHeld => ?_)
                      clear hK K
                      try simp only [List.getElem_toArray, List.getElem_cons_succ, List.getElem_cons_zero, Act.put, List.setIfInBounds_toArray, List.set_cons_zero, List.set_cons_succ]
                      refine wpAnyH_take (i := 4) (v := Value.bool true) rfl (by kernel_rfl) (by kernel_rfl) (by kernel_rfl) (fun _ _ _ h => h) (Or.inl ⟨rfl, fun w' hw' => ?_⟩) hHeld ?_
                      · go_simp
                      simp only [List.getElem_toArray, List.getElem_cons_succ, List.getElem_cons_zero, Act.put, List.setIfInBounds_toArray, List.set_cons_zero, List.set_cons_succ]
                      refine wpAnyH_take (i := 5) (v := Value.bool true) rfl (by kernel_rfl) (by kernel_rfl) (by kernel_rfl) (fun _ _ _ h => h) (Or.inl ⟨rfl, fun w' hw' => ?_⟩) hHeld ?_
                      · go_simp
                      simp only [List.getElem_toArray, List.getElem_cons_succ, List.getElem_cons_zero, Act.put, List.setIfInBounds_toArray, List.set_cons_zero, List.set_cons_succ]
                      refine wpAnyH_take (i := 6) (v := ?v167) rfl (by kernel_rfl) (by kernel_rfl) (by kernel_rfl) (fun _ _ _ h => h) (Or.inl ⟨rfl, fun w' hw' => ?h167⟩) hHeld ?r167
                      case h167 =>
                        go_simp
                        try with_reducible rfl
                      simp only [List.getElem_toArray, List.getElem_cons_succ, List.getElem_cons_zero, Act.put, List.setIfInBounds_toArray, List.set_cons_zero, List.set_cons_succ]
                      refine wpAnyH_take (i := 7) (v := ?v168) rfl (by kernel_rfl) (by kernel_rfl) (by kernel_rfl) (fun _ _ _ h => h) (Or.inl ⟨rfl, fun w' hw' => ?h168⟩) hHeld ?r168
                      case h168 =>
                        go_simp
                        try with_reducible rfl
                      simp only [List.getElem_toArray, List.getElem_cons_succ, List.getElem_cons_zero, Act.put, List.setIfInBounds_toArray, List.set_cons_zero, List.set_cons_succ]
                      refine wpAnyH_take (i := 8) (v := ?v169) rfl (by kernel_rfl) (by kernel_rfl) (by kernel_rfl) (fun _ _ _ h => h) (Or.inl ⟨rfl, fun w' hw' => ?h169⟩) hHeld ?r169
                      case h169 =>
                        go_simp
                        try with_reducible rfl
                      simp only [List.getElem_toArray, List.getElem_cons_succ, List.getElem_cons_zero, Act.put, List.setIfInBounds_toArray, List.set_cons_zero, List.set_cons_succ]
                      refine wpAnyH_take (i := 9) (v := ?v170) rfl (by kernel_rfl) (by kernel_rfl) (by kernel_rfl) (fun _ _ _ h => h) (Or.inl ⟨rfl, fun w' hw' => ?h170⟩) hHeld ?r170
                      case h170 =>
                        (have d0 := hw'; go_simp)
                        try with_reducible rfl
                      simp only [List.getElem_toArray, List.getElem_cons_succ, List.getElem_cons_zero, Act.put, List.setIfInBounds_toArray, List.set_cons_zero, List.set_cons_succ]
                      refine wpAnyH_take (i := 10) (v := ?v171) rfl (by kernel_rfl) (by kernel_rfl) (by kernel_rfl) (fun _ _ _ h => h) (Or.inl ⟨rfl, fun w' hw' => ?h171⟩) hHeld ?r171
                      case h171 =>
                        go_simp
                        try with_reducible rfl
                      simp only [List.getElem_toArray, List.getElem_cons_succ, List.getElem_cons_zero, Act.put, List.setIfInBounds_toArray, List.set_cons_zero, List.set_cons_succ]
                      refine wpAnyH_take (i := 11) (v := ?v172) rfl (by kernel_rfl) (by kernel_rfl) (by kernel_rfl) (fun _ _ _ h => h) (Or.inl ⟨rfl, fun w' hw' => ?h172⟩) hHeld ?r172
                      case h172 =>
                        go_simp
                        try with_reducible rfl
                      simp only [List.getElem_toArray, List.getElem_cons_succ, List.getElem_cons_zero, Act.put, List.setIfInBounds_toArray, List.set_cons_zero, List.set_cons_succ]
                      refine wpAnyH_take (i := 12) (v := ?v173) rfl (by kernel_rfl) (by kernel_rfl) (by kernel_rfl) (fun _ _ _ h => h) (Or.inl ⟨rfl, fun w' hw' => ?h173⟩) hHeld ?r173
                      case h173 =>
                        (have d0 := hw'; go_simp)
                        try with_reducible rfl
                      simp only [List.getElem_toArray, List.getElem_cons_succ, List.getElem_cons_zero, Act.put, List.setIfInBounds_toArray, List.set_cons_zero, List.set_cons_succ]
                      refine wpAnyH_ready (rs := [13]) (by kernel_rfl) (by simp) ?_
                      refine (AllReadyH.cons rfl (fun K hK => ?_) AllReadyH.nil)
                      go_simp
                      refine (F29.out X HBX.out).mono ?_
                      rintro e v2 ⟨rfl, hb2⟩
                      have K2 := Lib.hid (HBX.out.trans (hb2.mono HBX.out.size))
                      have hS2 := HCE.out v2 K2.out
                      clear hb2
                      refine hK.out _ _ hS2 (fun hHeld => ?_)
                      clear hK K
                      try simp only [List.getElem_toArray, List.getElem_cons_succ, List.getElem_cons_zero, Act.put, List.setIfInBounds_toArray, List.set_cons_zero, List.set_cons_succ]
                      refine wpAnyH_take (i := 14) (v := ?v174) rfl (by kernel_rfl) (by kernel_rfl) (by kernel_rfl) (fun _ _ _ h => h) (Or.inl ⟨rfl, fun w' hw' => ?h174⟩) hHeld ?r174
                      case h174 =>
                        go_simp
                        try with_reducible rfl
                      simp only [List.getElem_toArray, List.getElem_cons_succ, List.getElem_cons_zero, Act.put, List.setIfInBounds_toArray, List.set_cons_zero, List.set_cons_succ]
                      refine wpAnyH_take (i := 15) (v := ?v175) rfl (by kernel_rfl) (by kernel_rfl) (by kernel_rfl) (fun _ _ _ h => h) (Or.inl ⟨rfl, fun w' hw' => ?h175⟩) hHeld ?r175
                      case h175 =>
                        go_simp
                        try with_reducible rfl
                      simp only [List.getElem_toArray, List.getElem_cons_succ, List.getElem_cons_zero, Act.put, List.setIfInBounds_toArray, List.set_cons_zero, List.set_cons_succ]
                      refine wpAnyH_take (i := 16) (v := ?v176) rfl (by kernel_rfl) (by kernel_rfl) (by kernel_rfl) (fun _ _ _ h => h) (Or.inl ⟨rfl, fun w' hw' => ?h176⟩) hHeld ?r176
                      case h176 =>
                        go_simp
                        try with_reducible rfl
                      simp only [List.getElem_toArray, List.getElem_cons_succ, List.getElem_cons_zero, Act.put, List.setIfInBounds_toArray, List.set_cons_zero, List.set_cons_succ]
                      refine wpAnyH_done (by kernel_rfl) ?_ _
                      refine NoPanic.normal ?_
                      clear hHeld
                      go_wp2_with fail
                      go_ret
                      exact ⟨rfl, HBE.out.trans (K2.out.mono HBE.out.size)⟩
end Go.Proofs.Ytogpmpnojlepoaa
