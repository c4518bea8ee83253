/- HeapSelf, walked. -/
import Derived.Test.YtogpmpnojlepoaaL2m
namespace Go.Proofs.Ytogpmpnojlepoaa
open Go Go.RowKit
set_option linter.unusedVariables false
set_option linter.unusedSimpArgs false
set_option maxHeartbeats 16000000 in
set_option maxRecDepth 100000 in
theorem self_walk (n : Int) (ahead : Int) (w : World) (hn : I64 n) (ha : I64 ahead) : Calls Try.prog 9 #[.int .i64 n, .int .i64 ahead] w (RetV (.bool true) w) := by
  go_enter Try.func9, Try.ntmps9
  go_wp2_with fail
  refine (known_any w).mono ?_
  rintro e wk ⟨rfl, hbk⟩
  have HBK := Lib.hid hbk
  clear hbk
  go_wp2_with fail
  refine (new_any 100 (by omega) (by omega) wk).mono ?_
  rintro e w1 ⟨rfl, hw1⟩
  have e1 : w1 = wk.alloc (.cells #[.slice none 0 0, .int .i64 ((100 : Nat) : Int)] 49) := hw1
  have H1 := Lib.hid (HL.new HBK.out 100 (by omega))
  rw [← e1] at H1
  clear hw1 e1
  obtain ⟨b, hb⟩ : ∃ b, b = wk.heap.size := ⟨_, rfl⟩
  rw [← hb] at H1 ⊢
  clear hb HBK
  go_wp2_with fail
  obtain ⟨k, hk, -, F⟩ := within_at n 20 hn (by omega) (by omega) w1
  refine F.mono ?_
  rintro e w2 ⟨rfl, rfl⟩
  clear F hn
  have H0 : Hid (AtInv w b 100 k w1 (.int .i64 0) w1) := ⟨0, Nat.zero_le _, rfl, none, H1.out⟩
  clear H1
  go_wp2_with fail
  go_loopw [7] (fun iv wr => AtInv w b 100 k w1 iv wr) (fun iv _ => k - (intOf iv).toNat)
  case atStart => exact H0.out
  case round =>
    clear H0
    obtain ⟨i, hi, rfl, G, hl⟩ := hrel
    have HH := Lib.hid hl
    clear hl
    by_cases hik : i < k
    · have q1 : decide ((i : Int) < (k : Int)) = true := decide_eq_true (by omega)
      have F := Lib.hid (atom_more HH.out (by omega))
      go_wp2_with fail
      refine F.out.mono ?_
      rintro e w3 ⟨rfl, G3, h3⟩
      have HR : Hid (AtInv w b 100 k w1 (.int .i64 ((i : Int) + 1)) w3) := ⟨i + 1, by omega, by go_num, G3, h3⟩
      clear h3 F
      go_wp2_with fail
      go_roundw
      case rel => exact HR.out
      case measure => simp [intOf]; omega
    · obtain rfl : i = k := by omega
      have q1 : decide ((i : Int) < (i : Int)) = false := decide_eq_false (by omega)
      have F23 : Hid (Calls Try.prog 23 #[.pointer (some ⟨b, 0, none⟩)] wr fun e w' => e = .returned (.int .i64 ((2 * i : Nat) : Int)) ∧ wr = w') := by
        have := used_any HH.out.hp.1
        rw [wds_length, atoms_total] at this
        exact this
      obtain ⟨a, hA⟩ : ∃ a, a = 2 * i := ⟨_, rfl⟩
      have ha2 : 2 * (i : Int) = (a : Int) := by omega
      have hT : total (atoms i) = a := by rw [atoms_total, hA]
      rw [← hA] at F23
      have HT := Lib.hid hT
      clear hA hT
      go_wp2_with fail
      refine F23.out.mono ?_
      rintro e w3 ⟨rfl, rfl⟩
      clear F23
      have ha80 : a ≤ 40 := by omega
      obtain ⟨j, hj, -, F⟩ := within_at ahead 40 ha (by omega) (by omega) wr
      have FJ := Lib.hid F
      clear F ha
      go_wp2_with fail
      refine FJ.out.mono ?_
      rintro e w3 ⟨rfl, rfl⟩
      clear FJ
      obtain ⟨c, hc⟩ : ∃ c : Nat, (a : Int) + 1 + (j : Int) = (c : Int) := ⟨a + 1 + j, by omega⟩
      have hcb : a < c ∧ c ≤ 100 := by omega
      have H2 := Lib.hid (HH.out.below ((Below.refl _ _).alloc (Nat.le_refl _) (.cells #[.int .i64 (a : Nat), .int .i64 (c : Nat)] 3)))
      have F22 := Lib.hid (alloc_unfit H2.out.hp 2 [(a : Nat), (c : Nat)] [] (.slice (some ⟨wr.heap.size, 0, none⟩) 2 2) (.slice none 0 0) (two_isS wr _ _) (nil_isS _) (by simp) (by simp) (by intro p hp; simp at hp; omega)
        (.inr (List.any_eq_true.2 ⟨(c : Nat), by simp, bey_over (by rw [HT.out]; omega)⟩)))
      clear hcb
      go_wp2_with fail
      refine F22.out.mono ?_
      rintro e w4 ⟨rfl, hb4⟩
      have H4 := Lib.hid (H2.out.below hb4)
      clear F22 hb4 H2 HH
      simp only [pair2]
      have HA := H4.out.apart (n := 2) (c := 2)
      have H5 := Lib.hid (H4.out.below ((Below.refl _ _).alloc (Nat.le_refl _) (.cells #[.int .i64 (a : Nat), .int .i64 (a : Nat)] 3)))
      have F22 := Lib.hid (alloc_yes H5.out.hp 2 [(a : Nat), (a : Nat)] [] (.slice (some ⟨w4.heap.size, 0, none⟩) 2 2) (.slice none 0 0) (two_isS w4 _ _) (nil_isS _) HA (apart_nil _ _) (by intro p hp; simp at hp; omega) (by rfl)
        (by have := bey_end (atoms i); rw [HT.out] at this; simp [this]) (by rw [HT.out]; simp [sizeF]; omega))
      clear HA
      go_wp2_with fail
      refine F22.out.mono ?_
      rintro e w6 hr
      obtain ⟨rfl, G6, h6⟩ := H5.out.turn hr
      have H6 := Lib.hid h6
      rw [HT.out]
      clear F22 hr h6 H5 H4
      simp only [pair2]
      have F27 : Hid (Calls Try.prog 27 #[.pointer (some ⟨b, 0, none⟩), .int .i64 (a : Int)] w6 (RetI [(a : Nat), (a : Nat)] w6)) := by
        have h := ptrs_o H6.out.hp (a : Int) (by omega) (by omega)
        have e := ptrs_new (atoms i) 2 [(a : Nat), (a : Nat)] []
        rw [HT.out] at e
        rw [e] at h
        exact h
      have F20 : Hid (∀ W, Below w6.heap.size w6 W → Calls Try.prog 20 #[.pointer (some ⟨b, 0, none⟩), .int .i64 (a : Int)] W (RetV (.int .i64 (a : Int)) W)) := by
        intro W hb
        have h := follow_o (H6.out.hp.below hb) (a : Int) (by omega) (by omega)
        have e := fol_new (atoms i) 2 [(a : Nat), (a : Nat)] [] (by decide)
        rw [HT.out] at e
        rw [e] at h
        exact h
      go_wp2_with fail
      refine F27.out.mono ?_
      rintro e w7 hr
      obtain ⟨ao, c2, rfl, ho7, hb7⟩ := hr.form
      have HO7 := Lib.hid (own_isS ho7)
      have HB7 := Lib.hid hb7
      clear hr ho7 hb7 F27
      have F24 : Hid (Calls Try.prog 24 #[.slice ao 2 c2, .slice (some ⟨w7.heap.size, 0, none⟩) 2 2] (w7.alloc (.cells #[.int .i64 (a : Nat), .int .i64 (a : Nat)] 3)) (RetV (.bool true) (w7.alloc (.cells #[.int .i64 (a : Nat), .int .i64 (a : Nat)] 3)))) := by
        exact ints_eq (HO7.out.below ((Below.refl _ _).alloc (Nat.le_refl _) (.cells #[.int .i64 (a : Nat), .int .i64 (a : Nat)] 3))) (two_isS w7 (a : Nat) (a : Nat)) (by simp)
      have HB8 := Lib.hid (HB7.out.trans (((Below.refl w7.heap.size w7).alloc (Nat.le_refl _) (.cells #[.int .i64 (a : Nat), .int .i64 (a : Nat)] 3)).mono HB7.out.size))
      simp only [List.length_cons, List.length_nil]
      go_wp2_with fail
      refine F24.out.mono ?_
      rintro e w9 ⟨rfl, hb9⟩
      have HB9 := Lib.hid (HB8.out.trans (hb9.mono HB8.out.size))
      clear hb9 F24 HB7 HO7
      go_wp2_with fail
      refine (F20.out w9 HB9.out).mono ?_
      rintro e w10 ⟨rfl, hb10⟩
      have HBE := Lib.hid (H6.out.bel.trans ((HB9.out.trans (hb10.mono HB9.out.size)).mono H6.out.bel.size))
      clear hb10 F20 HB9 HB8
      go_wp2_with fail
      go_ret
      exact ⟨rfl, HBE.out⟩
end Go.Proofs.Ytogpmpnojlepoaa
