/- HeapRoom, walked. -/
import Derived.Test.YtogpmpnojlepoaaL2m
namespace Go.Proofs.Ytogpmpnojlepoaa
open Go Go.RowKit
set_option linter.unusedVariables false
set_option linter.unusedSimpArgs false
theorem adrs_snoc (os : List Ob) (o : Ob) : adrs (os ++ [o]) = adrs os ++ [((total os : Nat) : Int)] := by
  apply List.ext_getElem
  · simp [adrs_len]
  · intro i h1 h2
    rw [adrs_get h1]
    rw [adrs_len] at h1
    by_cases hi : i < os.length
    · rw [List.getElem_append_left (by rw [adrs_len]; exact hi), adrs_get, adr_snoc os o i (by omega)]
    · have : i = os.length := by simp at h1; omega
      subst this
      rw [List.getElem_append_right (by rw [adrs_len]; omega)]
      simp only [adrs_len, Nat.sub_self, List.getElem_singleton]
      rw [adr_snoc os o _ (Nat.le_refl _), adr_all]
/-- A row of the law's own beside a heap. -/
def Beside (v : Value) (b : Nat) (G : Option Nat) : Prop := ∀ k, v.ownBlock = some k → k ≠ b ∧ G ≠ some k
def RoomInv (B : World) (b m : Nat) (uv wv iv : Value) (wr : World) : Prop :=
  ∃ (i : Nat) (os : List Ob) (G : Option Nat), i ≤ 80 ∧ os.length ≤ i ∧ iv = .int .i64 (i : Int) ∧ uv = .int .i64 (total os : Nat) ∧ HL B wr b G os m ∧ wr.ownsRow B.heap.size 3 1 wv os.length ((adrs os).map (Value.int .i64)) ∧ Beside wv b G
theorem own_fr {F : Nat → Prop} {w w' : World} {B : Nat} {e : TypeId} {s : Nat} {v : Value} {n : Nat} {xs : List Value} (h : w.ownsRow B e s v n xs) (hf : Fr F w w') (hn : ∀ k, v.ownBlock = some k → ¬ F k) : w'.ownsRow B e s v n xs := by
  refine ⟨h.1, ?_⟩
  rcases h.2 with h | ⟨g, cap, cur, e1, hb, hh, r⟩
  · exact .inl h
  · exact .inr ⟨g, cap, cur, e1, hb, (hf.block g (Array.getElem?_eq_some_iff.1 hh).1 (hn g (by rw [e1]; rfl))).trans hh, r⟩
theorem own_below {w w' : World} {B : Nat} {e : TypeId} {s : Nat} {v : Value} {n : Nat} {xs : List Value} (h : w.ownsRow B e s v n xs) (hb : Below w.heap.size w w') : w'.ownsRow B e s v n xs :=
  own_fr (F := fun _ => False) h (Fr.of_below hb) (fun _ _ h => h)
theorem HL.fr {F : Nat → Prop} {B w w' : World} {b : Nat} {G : Option Nat} {os : List Ob} {m : Nat} (h : HL B w b G os m) (hf : Fr F w w') (h1 : ¬ F b) (h2 : ∀ k, G = some k → ¬ F k) (h3 : ∀ k, k < B.heap.size → ¬ F k) : HL B w' b G os m :=
  ⟨⟨h.hp.1.keep (hf.block _ h.hp.1.lt h1) (fun k hk => hf.block _ (h.hp.1.glt k hk).1 (h2 k hk)), h.hp.2⟩, h.bel.trans (hf.below h3 h.bel.size), h.hb, h.hg⟩
theorem Beside.turn {v : Value} {b : Nat} {G G' : Option Nat} {w : World} {B : Nat} {n : Nat} {xs : List Value} (h : Beside v b G) (ho : w.ownsRow B 3 1 v n xs) (hG : ∀ k, G' = some k → G = some k ∨ w.heap.size ≤ k) : Beside v b G' := fun k hk => ⟨(h k hk).1, fun e => by
  rcases hG k e with h1 | h1
  · exact (h k hk).2 h1
  · have := (ho.lt k hk).2; omega⟩
/-- The row of the law's own grows. -/
theorem row_step {B w4 w9 : World} {b m U : Nat} {G4 : Option Nat} {os2 : List Ob} {v v' : Value} (h4 : HL B w4 b G4 os2 m) (hb : Beside v b G4) {n : Nat} {xs : List Value} (ho : w4.ownsRow B.heap.size 3 1 v n xs)
    (hg : (w4.alloc (.cells #[.int .i64 (U : Nat)] 3)).grownBy w9 v.ownBlock) (hv : ∀ k, v'.ownBlock = some k → v.ownBlock = some k ∨ (w4.alloc (.cells #[.int .i64 (U : Nat)] 3)).heap.size ≤ k) : HL B w9 b G4 os2 m ∧ Beside v' b G4 := by
  have hW : Below w4.heap.size w4 (w4.alloc (.cells #[.int .i64 (U : Nat)] 3)) := (Below.refl _ _).alloc (Nat.le_refl _) _
  have h5 := h4.below hW
  have hf : Fr (fun k => v.ownBlock = some k) (w4.alloc (.cells #[.int .i64 (U : Nat)] 3)) w9 := ⟨hg.os, hg.tape, hg.output, hg.size, fun k hk hn => hg.block k hk (fun e => hn e.symm)⟩
  refine ⟨h5.fr hf (fun e => (hb _ e).1 rfl) (fun k hk e => (hb _ e).2 hk) (fun k hk e => by have := (ho.lt k e).1; omega), fun k hk => ?_⟩
  rcases hv k hk with h | h
  · exact hb k h
  · exact ⟨by have := h5.hp.1.lt; omega, fun e => by have := (h5.hp.1.glt k e).1; omega⟩
set_option maxHeartbeats 16000000 in
set_option maxRecDepth 100000 in
theorem room_walk (words : Int) (a : Option Addr) (len cap : Nat) (zs : List Int) (w : World) (hW : I64 words) (hA : IsRow .i64 w a len cap zs) : Calls Try.prog 4 #[.int .i64 words, .slice a len cap] w (RetV (.bool true) w) := by
  have HA := Lib.hid hA.arg
  have hlen := hA.arg.1
  clear hA
  go_enter Try.func4, Try.ntmps4
  go_wp2_with fail
  refine (known_any w).mono ?_
  rintro e wk ⟨rfl, hbk⟩
  have HBK := Lib.hid hbk
  clear hbk
  go_wp2_with fail
  obtain ⟨m, hm, -, F⟩ := within_at words 300 hW (by omega) (by omega) wk
  refine F.mono ?_
  rintro e wk2 ⟨rfl, rfl⟩
  clear F hW
  go_wp2_with fail
  refine (new_any m (by omega) (by omega) wk).mono ?_
  rintro e w1 ⟨rfl, hw1⟩
  have e1 : w1 = wk.alloc (.cells #[.slice none 0 0, .int .i64 ((m : Nat) : Int)] 49) := hw1
  have H1 := Lib.hid (HL.new HBK.out m (by omega))
  rw [← e1] at H1
  clear hw1 e1
  obtain ⟨b, hb⟩ : ∃ b, b = wk.heap.size := ⟨_, rfl⟩
  rw [← hb] at H1 ⊢
  clear hb HBK
  go_wp2_with fail
  have H0 : Hid (RoomInv w b m (.int .i64 0) (.slice none 0 0) (.int .i64 0) w1) :=
    ⟨0, [], none, by omega, by simp, rfl, rfl, H1.out, World.ownsRow_nil _ _ _ _, fun k hk => by simp [Value.ownBlock] at hk⟩
  clear H1
  go_wp2_with fail
  go_loopw [7, 8, 9] (fun uv wv iv wr => RoomInv w b m uv wv iv wr) (fun _ _ iv _ => 80 - (intOf iv).toNat)
  case atStart => exact H0.out
  case round =>
    clear H0
    obtain ⟨i, os, G, hi, hol, rfl, rfl, hl, how, hbs⟩ := hrel
    have HH := Lib.hid hl
    have HO := Lib.hid how
    have HBS := Lib.hid hbs
    have htm := hl.hp.2.2.2
    clear hl how hbs
    by_cases hgo : i < len ∧ i < 80
    · obtain ⟨hil, hi80⟩ := hgo
      have q1 : decide ((i : Int) < (len : Int)) = true := decide_eq_true (by omega)
      have q2 : decide ((i : Int) < 80) = true := decide_eq_true (by omega)
      obtain ⟨x, y, rfl, hc, hy⟩ := (HA.out.below HH.out.bel).2 i hil
      obtain ⟨k, hk, -, F⟩ := within_at y 20 hy (by omega) (by omega) wr
      have F13 := Lib.hid F
      clear F hy
      have hmk := run_make_ints k (by omega) wr
      have hW2 : Below wr.heap.size wr (wr.alloc (.cells (ivals (List.replicate k 0)) 3)) := (Below.refl _ _).alloc (Nat.le_refl _) _
      have H2 := Lib.hid (HH.out.below hW2)
      have HO2 := Lib.hid (own_below HO.out hW2)
      have hIS : IsS (wr.alloc (.cells (ivals (List.replicate k 0)) 3)) (.slice (some ⟨wr.heap.size, 0, none⟩) k k) (List.replicate k 0) := by
        have h := block_isS (l := List.replicate k 0) (alloc_at wr (.cells (ivals (List.replicate k 0)) 3))
        rw [List.length_replicate] at h
        exact h
      have hap := HH.out.apart (n := k) (c := k)
      have hszF : sizeF [] (List.replicate k 0) = max 2 (1 + k) := by simp [sizeF]
      have F23 : Hid (∀ W G' os', HL w W b G' os' m → Calls Try.prog 23 #[.pointer (some ⟨b, 0, none⟩)] W fun e w' => e = .returned (.int .i64 (total os' : Nat)) ∧ W = w') := by
        intro W G' os' h
        have := used_any h.hp.1
        rw [wds_length] at this
        exact this
      obtain ⟨sz, hsz⟩ : ∃ sz, sz = max 2 (1 + k) := ⟨_, rfl⟩
      have hmx : (if (2 : Int) < (k : Int) + 1 then (k : Int) + 1 else 2) = (sz : Int) := by split <;> omega
      obtain ⟨U, hU⟩ : ∃ U, U = total os := ⟨_, rfl⟩
      have hUb : U ≤ 300 := by omega
      have hszb : sz ≤ 30 := by omega
      have hol9 : os.length + 1 ≤ 1000000000 := by omega
      by_cases hroom : U + sz ≤ m
      · have F22 := Lib.hid (alloc_yes H2.out.hp 4 [] (List.replicate k 0) (.slice none 0 0) _ (nil_isS _) hIS (apart_nil _ _) hap (by intro p hp; cases hp) (by rw [fitF]; simp; omega) rfl (by rw [hszF, ← hsz, ← hU]; exact hroom))
        have q3 : decide ((U : Int) + (sz : Int) ≤ (m : Int)) = true := decide_eq_true (by omega)
        have hnT : total (os ++ [newO 4 [] (List.replicate k 0)]) = U + sz := by rw [total_append, ← hU]; simp only [total, newO_size]; simp; omega
        rw [← hU] at F22 ⊢
        generalize newO 4 [] (List.replicate k 0) = o4 at F22 hnT
        have HU := Lib.hid hU
        have HNT := Lib.hid hnT
        by_cases hk2 : (2 : Int) < (k : Int) + 1
        · rw [if_pos hk2] at hmx
          have hmx2 : (k : Int) + 1 = (sz : Int) := hmx
          clear hmx hIS hap hszF hsz hU hnT hW2
          go_wp2_with fail
          refine F13.out.mono ?_
          rintro e w3 ⟨rfl, rfl⟩
          clear F13
          go_wp2_with fail
          refine F22.out.mono ?_
          rintro e w4 hr
          obtain ⟨rfl, G4, h4⟩ := H2.out.turn hr
          obtain ⟨-, G5, h5, hfr, hgg⟩ := hr
          have hb5 : Beside u8 b G5 := HBS.out.turn HO2.out hgg
          have ho5 := own_fr HO2.out hfr (fun k hk h => by rcases h with h | h; exact (HBS.out k hk).1 h; exact (HBS.out k hk).2 h)
          have h6 : HL w w4 b G5 (os ++ [o4]) m := ⟨h5, h4.bel, h4.hb, fun k hk => by
            rcases hgg k hk with h | h
            · exact HH.out.hg k h
            · have := H2.out.bel.size; omega⟩
          have H6 := Lib.hid h6
          have B6 := Lib.hid hb5
          have O6 := Lib.hid ho5
          clear F22 h4 G4 h5 hfr hgg hb5 ho5 h6 H2 HO2 HO HH HBS
          simp only [pair2]
          have HOA := Lib.hid (O6.out.alloc (.cells #[.int .i64 (U : Nat)] 3))
          have HSR := Lib.hid (srcA_one (d := .int .i64 (U : Nat)) (T := 3) (alloc_at w4 (.cells #[.int .i64 (U : Nat)] 3)) rfl 1)
          have hsA : w.heap.size ≤ (w4.alloc (.cells #[.int .i64 (U : Nat)] 3)).heap.size := by have := H6.out.bel.size; simp; omega
          have F24 := Lib.hid (fun W (h : HL w W b G5 (os ++ [o4]) m) => F23.out W G5 _ h)
          rw [HNT.out] at F24
          clear F23
          go_wp2_with (refine wpList_wantedR (by rfl) fun K hK => ?_; refine wp_appI (Operand.tmp 71) (Operand.tmp 73) rfl w.heap.size u8 os.length _ rfl HOA.out (.slice (some ⟨w4.heap.size, 0, none⟩) 1 1) rfl 1 _ HSR.out hol9 hsA ?_; intro v' w9 hown9 hg9 hv9; have HST := Lib.hid (row_step H6.out B6.out O6.out hg9 hv9); have HO9 := Lib.hid hown9; clear hown9 hg9 hv9 HOA HSR; refine hK _ _ ?_; clear hK K)
          have F25 := Lib.hid (F24.out w9 HST.out.1)
          rw [show ((U + sz : Nat) : Int) = (U : Int) + (sz : Int) by omega] at F25
          clear F24
          refine F25.out.mono ?_
          rintro e w5 ⟨rfl, rfl⟩
          clear F25
          go_wp2_with fail
          go_roundw
          case rel =>
            refine ⟨i + 1, os ++ [o4], G5, by omega, by simp; omega, by go_num, by rw [HNT.out]; go_num, HST.out.1, ?_, HST.out.2⟩
            rw [adrs_snoc, List.map_append, List.length_append, HU.out.symm]
            exact HO9.out
          case measure => simp [intOf]; omega
        · rw [if_neg hk2] at hmx
          have hs2 : sz = 2 := by omega
          subst hs2
          clear hmx hIS hap hszF hsz hU hnT hW2
          go_wp2_with fail
          refine F13.out.mono ?_
          rintro e w3 ⟨rfl, rfl⟩
          clear F13
          go_wp2_with fail
          refine F22.out.mono ?_
          rintro e w4 hr
          obtain ⟨rfl, G4, h4⟩ := H2.out.turn hr
          obtain ⟨-, G5, h5, hfr, hgg⟩ := hr
          have hb5 : Beside u8 b G5 := HBS.out.turn HO2.out hgg
          have ho5 := own_fr HO2.out hfr (fun k hk h => by rcases h with h | h; exact (HBS.out k hk).1 h; exact (HBS.out k hk).2 h)
          have h6 : HL w w4 b G5 (os ++ [o4]) m := ⟨h5, h4.bel, h4.hb, fun k hk => by
            rcases hgg k hk with h | h
            · exact HH.out.hg k h
            · have := H2.out.bel.size; omega⟩
          have H6 := Lib.hid h6
          have B6 := Lib.hid hb5
          have O6 := Lib.hid ho5
          clear F22 h4 G4 h5 hfr hgg hb5 ho5 h6 H2 HO2 HO HH HBS
          simp only [pair2]
          have HOA := Lib.hid (O6.out.alloc (.cells #[.int .i64 (U : Nat)] 3))
          have HSR := Lib.hid (srcA_one (d := .int .i64 (U : Nat)) (T := 3) (alloc_at w4 (.cells #[.int .i64 (U : Nat)] 3)) rfl 1)
          have hsA : w.heap.size ≤ (w4.alloc (.cells #[.int .i64 (U : Nat)] 3)).heap.size := by have := H6.out.bel.size; simp; omega
          have F24 := Lib.hid (fun W (h : HL w W b G5 (os ++ [o4]) m) => F23.out W G5 _ h)
          rw [HNT.out] at F24
          clear F23
          go_wp2_with (refine wpList_wantedR (by rfl) fun K hK => ?_; refine wp_appI (Operand.tmp 71) (Operand.tmp 73) rfl w.heap.size u8 os.length _ rfl HOA.out (.slice (some ⟨w4.heap.size, 0, none⟩) 1 1) rfl 1 _ HSR.out hol9 hsA ?_; intro v' w9 hown9 hg9 hv9; have HST := Lib.hid (row_step H6.out B6.out O6.out hg9 hv9); have HO9 := Lib.hid hown9; clear hown9 hg9 hv9 HOA HSR; refine hK _ _ ?_; clear hK K)
          have F25 := Lib.hid (F24.out w9 HST.out.1)
          rw [show ((U + 2 : Nat) : Int) = (U : Int) + (2 : Int) by omega] at F25
          clear F24
          refine F25.out.mono ?_
          rintro e w5 ⟨rfl, rfl⟩
          clear F25
          go_wp2_with fail
          go_roundw
          case rel =>
            refine ⟨i + 1, os ++ [o4], G5, by omega, by simp; omega, by go_num, by rw [HNT.out]; go_num, HST.out.1, ?_, HST.out.2⟩
            rw [adrs_snoc, List.map_append, List.length_append, HU.out.symm]
            exact HO9.out
          case measure => simp [intOf]; omega
      · have F22 := Lib.hid (alloc_full H2.out.hp 4 [] (List.replicate k 0) (.slice none 0 0) _ (nil_isS _) hIS (by intro p hp; cases hp) (by rw [fitF]; simp; omega) rfl (by rw [hszF, ← hsz, ← hU]; exact hroom))
        have q3 : decide ((U : Int) + (sz : Int) ≤ (m : Int)) = false := decide_eq_false (by omega)
        rw [← hU] at ⊢
        have HU := Lib.hid hU
        by_cases hk2 : (2 : Int) < (k : Int) + 1
        · rw [if_pos hk2] at hmx
          have hmx2 : (k : Int) + 1 = (sz : Int) := hmx
          clear hmx hIS hap hszF hsz hU hW2
          go_wp2_with fail
          refine F13.out.mono ?_
          rintro e w3 ⟨rfl, rfl⟩
          clear F13
          go_wp2_with fail
          refine F22.out.mono ?_
          rintro e w4 ⟨rfl, hb4⟩
          have HN : Hid (HL w w4 b G os m ∧ w4.ownsRow w.heap.size 3 1 u8 os.length ((adrs os).map (Value.int .i64))) := ⟨H2.out.below hb4, own_below HO2.out hb4⟩
          clear F22 hb4 H2 HO2 HO HH
          simp only [pair2]
          have F24 := Lib.hid (F23.out w4 G os HN.out.1)
          rw [← HU.out] at F24
          go_wp2_with fail
          refine F24.out.mono ?_
          rintro e w5 ⟨rfl, rfl⟩
          clear F24 F23
          go_wp2_with fail
          go_roundw
          case rel => exact ⟨i + 1, os, G, by omega, by omega, by go_num, by rw [HU.out], HN.out.1, HN.out.2, HBS.out⟩
          case measure => simp [intOf]; omega
        · rw [if_neg hk2] at hmx
          have hs2 : sz = 2 := by omega
          subst hs2
          clear hmx hIS hap hszF hsz hU hW2
          go_wp2_with fail
          refine F13.out.mono ?_
          rintro e w3 ⟨rfl, rfl⟩
          clear F13
          go_wp2_with fail
          refine F22.out.mono ?_
          rintro e w4 ⟨rfl, hb4⟩
          have HN : Hid (HL w w4 b G os m ∧ w4.ownsRow w.heap.size 3 1 u8 os.length ((adrs os).map (Value.int .i64))) := ⟨H2.out.below hb4, own_below HO2.out hb4⟩
          clear F22 hb4 H2 HO2 HO HH
          simp only [pair2]
          have F24 := Lib.hid (F23.out w4 G os HN.out.1)
          rw [← HU.out] at F24
          go_wp2_with fail
          refine F24.out.mono ?_
          rintro e w5 ⟨rfl, rfl⟩
          clear F24 F23
          go_wp2_with fail
          go_roundw
          case rel => exact ⟨i + 1, os, G, by omega, by omega, by go_num, by rw [HU.out], HN.out.1, HN.out.2, HBS.out⟩
          case measure => simp [intOf]; omega
    · obtain ⟨ao, c9, hu8⟩ := own_sform HO.out
      subst hu8
      have F25 := Lib.hid (objects_o HH.out.hp)
      have F26 := Lib.hid (fun W (hb : Below wr.heap.size wr W) => words_any (HH.out.below hb).hp.1)
      have q12 : (decide ((i : Int) < (len : Int)) && decide ((i : Int) < 80)) = false := by simp; omega
      have hal : (adrs os).length ≤ 1000000 := by rw [adrs_len]; omega
      have HAL := Lib.hid (adrs_len os)
      have FIN : Hid (∀ w5 vo, Below wr.heap.size wr w5 → w5.ownsRow wr.heap.size 3 1 vo (adrs os).length ((adrs os).map (Value.int .i64)) → Calls Try.prog 24 #[vo, .slice ao os.length c9] w5 (RetV (.bool true) w5)) := fun w5 vo hb ho => ints_eq (own_isS ho) (own_isS (own_below HO.out hb)) hal
      by_cases hil : i < len
      · have q1 : decide ((i : Int) < (len : Int)) = true := decide_eq_true (by omega)
        have q2 : decide ((i : Int) < 80) = false := decide_eq_false (by omega)
        clear q12 htm
        go_wp2_with fail
        refine F25.out.mono ?_
        rintro e w5 hr
        obtain ⟨ao5, c5, rfl, ho5, hb5⟩ := hr.form
        have F24 := Lib.hid (FIN.out w5 _ hb5 ho5)
        rw [HAL.out] at F24
        have HB5 := Lib.hid hb5
        clear hr ho5 hb5 F25
        simp only [HAL.out]
        go_wp2_with fail
        refine F24.out.mono ?_
        rintro e w6 ⟨rfl, hb6⟩
        have HB6 := Lib.hid (HB5.out.trans (hb6.mono HB5.out.size))
        clear hb6 F24
        go_wp2_with fail
        refine (F26.out w6 HB6.out).mono ?_
        rintro e w7 ⟨rfl, rfl⟩
        clear F26
        go_wp2_with fail
        go_ret
        exact ⟨rfl, (HH.out.below HB6.out).bel⟩
      · have q1 : decide ((i : Int) < (len : Int)) = false := decide_eq_false (by omega)
        clear q12 htm
        go_wp2_with fail
        refine F25.out.mono ?_
        rintro e w5 hr
        obtain ⟨ao5, c5, rfl, ho5, hb5⟩ := hr.form
        have F24 := Lib.hid (FIN.out w5 _ hb5 ho5)
        rw [HAL.out] at F24
        have HB5 := Lib.hid hb5
        clear hr ho5 hb5 F25
        simp only [HAL.out]
        go_wp2_with fail
        refine F24.out.mono ?_
        rintro e w6 ⟨rfl, hb6⟩
        have HB6 := Lib.hid (HB5.out.trans (hb6.mono HB5.out.size))
        clear hb6 F24
        go_wp2_with fail
        refine (F26.out w6 HB6.out).mono ?_
        rintro e w7 ⟨rfl, rfl⟩
        clear F26
        go_wp2_with fail
        go_ret
        exact ⟨rfl, (HH.out.below HB6.out).bel⟩
end Go.Proofs.Ytogpmpnojlepoaa
