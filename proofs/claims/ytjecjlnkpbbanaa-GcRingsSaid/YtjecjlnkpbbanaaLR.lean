/- GcRings, walked. -/
import Derived.Test.YtjecjlnkpbbanaaL21
import Derived.Test.YtjecjlnkpbbanaaL22
import Derived.Test.YtjecjlnkpbbanaaG5
namespace Go.Proofs.Ytjecjlnkpbbanaa
open Go Go.RowKit
set_option linter.unusedVariables false
set_option linter.unusedSimpArgs false
def id3 (j : Nat) : Nat := 3 * j
def Rg1 (B : World) (b k : Nat) (iv : Value) (wr : World) : Prop := ∃ (i : Nat) (G : Option Nat), i ≤ k ∧ iv = .int .i64 (i : Int) ∧ HL B wr b G (tri id3 i) 200
def mixf (k i j : Nat) : Nat := if j < i then rnx k j else 3 * j
def Rg2 (B : World) (b k : Nat) (iv : Value) (wr : World) : Prop := ∃ (i : Nat) (G : Option Nat), i ≤ k ∧ iv = .int .i64 (i : Int) ∧ HL B wr b G (tri (mixf k i) k) 200
def Rg3 (W : World) (k : Nat) (av iv : Value) (wr : World) : Prop := ∃ i : Nat, i ≤ k ∧ iv = .int .i64 (i : Int) ∧ av = .int .i64 ((3 * (i % k) : Nat) : Int) ∧ Below W.heap.size W wr
theorem tri_congr {f g : Nat → Nat} {n : Nat} (h : ∀ j, j < n → f j = g j) : tri f n = tri g n := by
  unfold tri
  apply List.map_congr_left
  intro j hj
  unfold trio
  rw [h j (List.mem_range.1 hj)]
set_option maxHeartbeats 16000000 in
set_option maxRecDepth 100000 in
theorem rings_walk (n att : Int) (rooted : Bool) (w : World) (hn : I64 n) (hat : I64 att) :
    Calls Try.prog 10 #[.int .i64 n, .int .i64 att, .bool rooted] w (RetV (.bool true) w) := by
  go_enter Try.func10, Try.ntmps10
  go_wp2_with fail
  refine (known_any w).mono ?_
  rintro e wk ⟨rfl, hbk⟩
  have HBK := Lib.hid hbk
  clear hbk
  go_wp2_with fail
  refine (new_any (200 : Nat) (by omega) (by omega) wk).mono ?_
  rintro e w1 ⟨rfl, hw1⟩
  have e1 : w1 = wk.alloc (.cells #[.slice none 0 0, .int .i64 ((200 : Nat) : Int)] 75) := hw1
  have H1 := Lib.hid (HL.new HBK.out 200 (by omega))
  rw [← e1] at H1
  clear hw1 e1
  obtain ⟨b, hb⟩ : ∃ b, b = wk.heap.size := ⟨_, rfl⟩
  rw [← hb] at H1 ⊢
  clear hb HBK
  obtain ⟨k9, hk9, -, F⟩ := within_at14 n 15 hn (by omega) (by omega) w1
  have FW := Lib.hid F
  clear F hn
  obtain ⟨k, hk⟩ : ∃ k, k = 1 + k9 := ⟨_, rfl⟩
  have hkk : (1 : Int) + (k9 : Int) = (k : Int) := by omega
  have hk1 : 1 ≤ k := by omega
  have hk2 : k ≤ 15 := by omega
  clear hk
  go_wp2_with fail
  refine FW.out.mono ?_
  rintro e w2 ⟨rfl, rfl⟩
  clear FW
  have H0 : Hid (Rg1 w b k (.int .i64 0) w1) := ⟨0, none, Nat.zero_le _, rfl, H1.out⟩
  clear H1
  go_wp2_with fail
  clear hkk hk9
  go_loopw [9] (fun iv wr => Rg1 w b k iv wr) (fun iv _ => k - (intOf iv).toNat)
  case atStart => exact H0.out
  case round =>
    clear H0
    obtain ⟨i, G, hi, rfl, hl⟩ := hrel
    have HL9 := Lib.hid hl
    clear hl
    by_cases hik : i < k
    · have q1 : decide ((i : Int) < (k : Int)) = true := decide_eq_true (by omega)
      have ht := tri_total id3 i
      have hbe : bey (tri id3 i) ((3 * i : Nat) : Int) = false := by rw [← ht]; exact bey_end _
      have h3 : (3 : Int) * (i : Int) = ((3 * i : Nat) : Int) := by omega
      obtain ⟨x, hx⟩ : ∃ x : Nat, x = 3 * i := ⟨_, rfl⟩
      rw [← hx] at hbe h3 ht
      have hfit : fitF (2 : Nat) [(x : Int), (x : Int)] [] = true := rfl
      have hxb : I64 (x : Int) := by unfold I64; omega
      have H2 := Lib.hid (HL9.out.drops (.cells #[.int .i64 (x : Int), .int .i64 (x : Int)] 3))
      have F28 := Lib.hid (H2.out.alloc 2 [(x : Int), (x : Int)] [] (.slice (some ⟨wr.heap.size, 0, none⟩) 2 2) (.slice none 0 0) (two_isS wr x x) (nil_isS _) (HL9.out.apart2 (Nat.le_refl _)) (apart_nil _ _) (fun p hp => by simp at hp; rw [hp]; exact ⟨hbe, hxb⟩) hfit (by rw [ht]; show x + 3 ≤ 200; omega))
      have HF : Hid (∀ (w' : World) (G' : Option Nat), HL w w' b G' (tri id3 i ++ [newO 2 [(x : Int), (x : Int)] []]) 200 → Rg1 w b k (.int .i64 ((i : Int) + 1)) w') := by
        intro w' G' h
        refine ⟨i + 1, G', hik, by go_num, ?_⟩
        rw [tri_snoc]
        have : trio id3 i = newO 2 [(x : Int), (x : Int)] [] := by unfold trio id3; rw [← hx]
        rw [this]; exact h
      clear hbe ht hfit hxb hx
      go_wp2_with fail
      refine F28.out.mono ?_
      rintro e w4 ⟨rfl, G4, h4, -⟩
      have HREL := Lib.hid (HF.out w4 G4 h4)
      clear F28 H2 h4 HF HL9 h3
      go_wp2_with fail
      go_roundw
      case rel => exact HREL.out
      case measure => simp [intOf]; omega
    · obtain rfl : i = k := by omega
      have q1 : decide ((i : Int) < (i : Int)) = false := decide_eq_false (by omega)
      have H0 : Hid (Rg2 w b i (.int .i64 0) wr) := ⟨0, G, Nat.zero_le _, rfl, by
        have : tri (mixf i 0) i = tri id3 i := tri_congr (fun j hj => by unfold mixf id3; rw [if_neg (by omega)])
        rw [this]; exact HL9.out⟩
      clear HL9
      go_wp2_with fail
      go_loopw [12] (fun iv wr => Rg2 w b i iv wr) (fun iv _ => i - (intOf iv).toNat)
      case atStart => exact H0.out
      case round =>
        clear H0
        obtain ⟨j, G2, hj, rfl, hl⟩ := hrel
        have HL9 := Lib.hid hl
        clear hl
        by_cases hji : j < i
        · have q1 : decide ((j : Int) < (i : Int)) = true := decide_eq_true (by omega)
          have hto : Vd (tri (mixf i j) i) ((3 * ((j + 1) % i) : Nat) : Int) := ⟨_, tri_ob _ _ _ (Nat.mod_lt _ (by omega))⟩
          obtain ⟨y, hy⟩ : ∃ y, y = (j + 1) % i := ⟨_, rfl⟩
          have hyl : y < i := by rw [hy]; exact Nat.mod_lt _ (by omega)
          have hym : ((j : Int) + 1).tmod (i : Int) = (y : Int) := by
            rw [Int.tmod_eq_emod_of_nonneg (by omega), hy, Int.natCast_emod, Int.natCast_add]; rfl
          rw [← hy] at hto
          have h3 : (3 : Int) * (j : Int) = ((3 * j : Nat) : Int) := by omega
          have h4 : (3 : Int) * (y : Int) = ((3 * y : Nat) : Int) := by omega
          obtain ⟨qo, hqo⟩ := hto
          have F29 := Lib.hid (set_yes HL9.out.hp ((3 * j : Nat) : Int) 1 ((3 * y : Nat) : Int) (by omega) (by omega) (by omega) (by omega) (by omega) (by omega) j (tri_loc _ _ _ hji) (by omega) (by rw [hdo_ob (tri_ob _ _ _ hji)]; exact (by decide : (1 : Int) < ((2 : Nat) : Int))) (by rw [hqo]; rfl))
          have HF : Hid (∀ (w' : World) (e : Ending), RetHp (.bool true) b G2 (upd (tri (mixf i j) i) j (fun o => setO o (1 : Int).toNat ((3 * y : Nat) : Int))) 200 wr e w' → e = .returned (.bool true) ∧ Rg2 w b i (.int .i64 ((j : Int) + 1)) w') := by
            intro w' e h
            obtain ⟨he, G', h'⟩ := HL9.out.turn h
            refine ⟨he, j + 1, G', hji, by go_num, ?_⟩
            rw [tri_set _ _ _ hji] at h'
            have : tri (mixf i (j + 1)) i = tri (fun z => if z = j then 3 * y else mixf i j z) i := tri_congr (fun z hz => by
              unfold mixf
              by_cases e1 : z = j
              · subst e1; rw [if_pos (by omega), if_pos rfl]; unfold rnx; rw [hy]
              · rw [if_neg e1]
                by_cases e2 : z < j
                · rw [if_pos (by omega), if_pos e2]
                · rw [if_neg (by omega), if_neg e2])
            rw [this]; exact h'
          obtain ⟨X, hX⟩ : ∃ X : Nat, X = 3 * j := ⟨_, rfl⟩
          obtain ⟨Y, hY⟩ : ∃ Y : Nat, Y = 3 * y := ⟨_, rfl⟩
          rw [← hX] at h3 F29
          rw [← hY] at h4 F29 HF
          clear hqo hy hX hY
          have hi0 : ((i : Int) == 0) = false := by
            have : ¬ (i : Int) = 0 := by omega
            simpa using this
          go_wp2_with fail
          refine F29.out.mono ?_
          intro e w4 hr
          obtain ⟨rfl, hrel⟩ := HF.out w4 e hr
          have HREL := Lib.hid hrel
          clear F29 hr HF HL9 hrel h3 h4
          go_wp2_with fail
          go_roundw
          case rel => exact HREL.out
          case measure => simp [intOf]; omega
        · obtain rfl : j = i := by omega
          have q1 : decide ((j : Int) < (j : Int)) = false := decide_eq_false (by omega)
          have HL8 : Hid (HL w wr b G2 (tri (rnx j) j) 200) := by
            have : tri (rnx j) j = tri (mixf j j) j := tri_congr (fun z hz => by unfold mixf; rw [if_pos hz])
            rw [this]; exact HL9.out
          clear HL9
          cases rooted with
          | false =>
            have F16 := Lib.hid (collect_yes HL8.out.hp 5 (by omega) (.slice none 0 0) [] (nil_isS _) (apart_nil _ _) (by simp) (by simp))
            go_wp2_with fail
            refine F16.out.mono ?_
            rintro e w4 hr
            obtain ⟨b4, g4, G4, rfl, ha4, hb4, -, -⟩ := HL8.out.gc hr
            obtain ⟨h4, -⟩ := ha4
            rw [gc_nothing] at h4
            have F20 : Hid (Calls Try.prog 20 #[.pointer (some ⟨b4, 0, none⟩)] w4 fun e w' => e = .returned (.int .i64 0) ∧ w4 = w') := used_any h4.hp.1
            have HB := Lib.hid h4.bel
            clear F16 hr hb4 h4 HL8
            go_wp2_with fail
            refine F20.out.mono ?_
            rintro e w5 ⟨rfl, rfl⟩
            go_wp2_with fail
            go_ret
            exact ⟨rfl, HB.out⟩
          | true =>
            obtain ⟨a, ha, -, F⟩ := within_at14 att j hat (by omega) (by omega) wr
            have FW := Lib.hid F
            have h3 : (3 : Int) * (a : Int) = ((3 * a : Nat) : Int) := by omega
            have hnd : nod j a 0 = ((3 * a : Nat) : Int) := by unfold nod; rw [Nat.add_zero, Nat.mod_eq_of_lt ha]
            have hrg := ring_gc (show 0 < j by omega) a 5
            rw [hnd] at hrg
            have hvd : Vd (tri (rnx j) j) ((3 * a : Nat) : Int) := ⟨_, tri_ob _ _ _ ha⟩
            obtain ⟨x, hx⟩ : ∃ x : Nat, x = 3 * a := ⟨_, rfl⟩
            rw [← hx] at hrg hvd h3
            have H2 := Lib.hid (HL8.out.drops (.cells #[.int .i64 (x : Int)] 3))
            have F16 := Lib.hid (collect_yes H2.out.hp 5 (by omega) (.slice (some ⟨wr.heap.size, 0, none⟩) 1 1) [(x : Int)] (one_isS wr x) (HL8.out.apart2 (Nat.le_refl _)) (by simp) (fun r hr => by rw [List.mem_singleton.1 hr]; exact hvd))
            have HRG := Lib.hid hrg
            clear F hnd hrg hvd hx
            go_wp2_with fail
            refine FW.out.mono ?_
            rintro e w3 ⟨rfl, rfl⟩
            clear FW
            go_wp2_with fail
            refine F16.out.mono ?_
            rintro e w4 hr
            obtain ⟨b4, g4, G4, rfl, ha4, hb4, -, -⟩ := H2.out.gc hr
            obtain ⟨h4, -, hi4, -⟩ := ha4
            rw [HRG.out.1] at h4
            rw [HRG.out.2] at hi4
            have c4 := hi4.cell? (j := 0) (v := 0) rfl
            have hg4 := hi4.lt
            have H4 := Lib.hid h4
            have F20 : Hid (Calls Try.prog 20 #[.pointer (some ⟨b4, 0, none⟩)] w4 fun e w' => e = .returned (.int .i64 ((3 * j : Nat) : Int)) ∧ w4 = w') := by
              have := used_any h4.hp.1; rw [wds_length, tri_total] at this; exact this
            have HC4 : Hid (∀ W, Below w4.heap.size w4 W → W.cell? ⟨g4, 0, none⟩ = some (.int .i64 0)) := fun W hb => (hb.cell (p := ⟨g4, 0, none⟩) hg4).trans c4
            have h3j : (3 : Int) * (j : Int) = ((3 * j : Nat) : Int) := by omega
            have HP4 := Lib.hid (fun W (hb : Below w4.heap.size w4 W) (i : Nat) (hi : i < j) => ptrs_o (H4.out.below hb).hp ((3 * i : Nat) : Int) (by omega) (by omega))
            have H0 : Hid (Rg3 w4 j (.int .i64 0) (.int .i64 0) w4) := ⟨0, Nat.zero_le _, rfl, by rw [Nat.zero_mod]; rfl, Below.refl _ _⟩
            have qjj : (((3 * j : Nat) : Int) != ((3 * j : Nat) : Int)) = false := by simp
            obtain ⟨J3, hJ3⟩ : ∃ J3, J3 = 3 * j := ⟨_, rfl⟩
            rw [← hJ3] at F20 h3j qjj
            clear F16 hr hb4 h4 hi4 H2 HRG HL8 h3 hJ3
            go_wp2_with fail
            refine F20.out.mono ?_
            rintro e w5 ⟨rfl, rfl⟩
            clear F20
            go_wp2_with fail
            clear c4 h3j qjj
            go_loopw [19, 20] (fun av iv wr => Rg3 w4 j av iv wr) (fun _ iv _ => j - (intOf iv).toNat)
            case atStart => exact H0.out
            case round =>
              clear H0
              obtain ⟨i, hi, rfl, rfl, hbel⟩ := hrel
              have HB := Lib.hid hbel
              clear hbel
              by_cases hij : i < j
              · have q1 : decide ((i : Int) < (j : Int)) = true := decide_eq_true (by omega)
                have F23 := Lib.hid (HP4.out wr HB.out i hij)
                rw [tri_ptrs _ _ _ hij] at F23
                rw [Nat.mod_eq_of_lt hij]
                obtain ⟨X, hX⟩ : ∃ X : Nat, X = 3 * i := ⟨_, rfl⟩
                rw [← hX] at F23 ⊢
                have HRX : Hid ((rnx j i : Nat) = 3 * ((i + 1) % j)) := rfl
                obtain ⟨Y, hY⟩ : ∃ Y : Nat, Y = rnx j i := ⟨_, rfl⟩
                rw [← hY] at F23 HRX
                have hgt : (0 : Int) < (i : Int) ↔ 0 < i := by omega
                have hX0 : 0 < i → ((X : Int) == 0) = false := fun h => by
                  have : ¬ (X : Int) = 0 := by omega
                  simpa using this
                have HX0 := Lib.hid hX0
                clear hX hY hgt hX0
                go_wp2_with fail
                refine F23.out.mono ?_
                rintro e w6 hr6
                obtain ⟨po, pc, rfl, hown6, hb6⟩ := hr6.form
                have HB6 := Lib.hid (HB.out.trans (hb6.mono HB.out.size))
                obtain ⟨g6, cg6, e6, -, -, -, hgc6⟩ := own_at hown6 (Nat.lt_of_lt_of_eq Nat.zero_lt_two rfl)
                injection e6 with e6 e7 e8
                subst e6
                clear e7 e8
                have c60 := hgc6 0 (Nat.lt_of_lt_of_eq Nat.zero_lt_two rfl)
                have c61 := hgc6 1 (Nat.lt_of_lt_of_eq Nat.one_lt_two rfl)
                simp only [List.getElem_cons_zero, List.getElem_cons_succ] at c60 c61
                have c46 := HC4.out w6 HB6.out
                have qXX : ((X : Int) != (X : Int)) = false := by simp
                have HREL : Hid (Rg3 w4 j (.int .i64 (Y : Int)) (.int .i64 ((i : Int) + 1)) w6) := ⟨i + 1, hij, by go_num, by rw [← HRX.out], HB6.out⟩
                simp only [List.length_cons, List.length_nil]
                clear hr6 hown6 hb6 hgc6 F23
                by_cases hi0 : 0 < i
                · have q2 : decide ((0 : Int) < (i : Int)) = true := decide_eq_true (by omega)
                  have q3 := HX0.out hi0
                  go_wp2_with fail
                  go_roundw
                  case rel => exact HREL.out
                  case measure => simp [intOf]; omega
                · have q2 : decide ((0 : Int) < (i : Int)) = false := decide_eq_false (by omega)
                  go_wp2_with fail
                  go_roundw
                  case rel => exact HREL.out
                  case measure => simp [intOf]; omega
              · obtain rfl : i = j := by omega
                have q1 : decide ((i : Int) < (i : Int)) = false := decide_eq_false (by omega)
                have c4 := HC4.out wr HB.out
                have HE := Lib.hid (H4.out.bel.trans (HB.out.mono H4.out.bel.size))
                rw [Nat.mod_self]
                simp only [Nat.mul_zero]
                go_wp2_with fail
                go_ret
                exact ⟨rfl, HE.out⟩
end Go.Proofs.Ytjecjlnkpbbanaa
