/- GcSelectors, walked. -/
import Derived.Test.YtjecjlnkpbbanaaL21
import Derived.Test.YtjecjlnkpbbanaaL22
namespace Go.Proofs.Ytjecjlnkpbbanaa
open Go Go.RowKit
set_option linter.unusedVariables false
set_option linter.unusedSimpArgs false
def SlI (B : World) (b k : Nat) (pr : Bool) (av iv : Value) (wr : World) : Prop :=
  ∃ (i : Nat) (G : Option Nat) (os : List Ob) (a : Int), i ≤ k ∧ iv = .int .i64 (i : Int) ∧ av = .int .i64 a ∧ HL B wr b G os 200 ∧ Ch pr os i a ∧ total os ≤ 2 + 6 * i
theorem lnk_size (pr : Bool) (a : Int) : (lnk pr a).size = 3 := by cases pr <;> rfl
theorem sl_fin {B w : World} {b k i : Nat} {pr : Bool} {G : Option Nat} {os : List Ob} {a w9 : Int} (hik : i < k) (hl : HL B w b G ((os ++ [lnk pr a]) ++ [newO 6 [(total os : Nat)] [w9]]) 200) (hc : Ch pr os i a) (ht : total os ≤ 2 + 6 * i) (hw : w9 = 0 ∨ w9 = 1) :
    SlI B b k pr (.int .i64 (total (os ++ [lnk pr a]) : Nat)) (.int .i64 ((i : Int) + 1)) w := by
  refine ⟨i + 1, G, _, _, hik, by go_num, rfl, hl, ⟨(total os : Nat), a, w9, ob_last _ _, hw, ob_more (ob_last _ _) _, (hc.more _).more _⟩, ?_⟩
  rw [total_append, total_append]
  simp only [total, lnk_size]
  have : (newO 6 [((total os : Nat) : Int)] [w9]).size = 3 := rfl
  omega
set_option maxHeartbeats 16000000 in
set_option maxRecDepth 100000 in
theorem selectors_walk (n deep : Int) (pr : Bool) (a : Option Addr) (len cap : Nat) (zs : List Int) (w : World) (hn : I64 n) (hd : I64 deep) (hA : IsRow .i64 w a len cap zs) :
    Calls Try.prog 7 #[.int .i64 n, .int .i64 deep, .bool pr, .slice a len cap] w (RetV (.bool true) w) := by
  have HA := Lib.hid hA.arg
  have hlen := hA.arg.1
  clear hA zs
  go_enter Try.func7, Try.ntmps7
  go_wp2_with fail
  refine (known_any w).mono ?_
  rintro e wk ⟨rfl, hbk⟩
  have HBK := Lib.hid hbk
  clear hbk
  go_wp2_with fail
  refine (new_any (200 : Nat) (by omega) (by omega) wk).mono ?_
  rintro e w1 ⟨rfl, hw1⟩
  have e1 : w1 = wk.alloc (.cells #[.slice none 0 0, .int .i64 ((200 : Nat) : Int)] 75) := hw1
  have H1 := Lib.hid (HL.new HBK.out 200 (by omega))
  rw [← e1] at H1
  clear hw1 e1
  obtain ⟨b, hb⟩ : ∃ b, b = wk.heap.size := ⟨_, rfl⟩
  rw [← hb] at H1 ⊢
  clear hb HBK
  obtain ⟨k9, hk9, -, F⟩ := within_at14 n 9 hn (by omega) (by omega) w1
  have FW := Lib.hid F
  obtain ⟨d, hd12, -, F2⟩ := within_at14 deep 12 hd (by omega) (by omega) w1
  have FW2 := Lib.hid F2
  clear F F2 hn hd
  obtain ⟨k, hk⟩ : ∃ k, k = 1 + k9 := ⟨_, rfl⟩
  have hkk : (1 : Int) + (k9 : Int) = (k : Int) := by omega
  have hk1 : 1 ≤ k := by omega
  have hk2 : k ≤ 9 := by omega
  clear hk
  go_wp2_with fail
  refine FW.out.mono ?_
  rintro e w2 ⟨rfl, rfl⟩
  go_wp2_with fail
  refine FW2.out.mono ?_
  rintro e w2 ⟨rfl, rfl⟩
  clear FW FW2 hk9
  have H2 := Lib.hid (H1.out.drops (.cells #[.int .i64 77] 3))
  have F28 := Lib.hid (H2.out.alloc 1 [] [77] (.slice none 0 0) (.slice (some ⟨w1.heap.size, 0, none⟩) 1 1) (nil_isS _) (one_isS w1 77) (apart_nil _ _) (H1.out.apart2 (Nat.le_refl _)) (by simp) (by decide) (by decide))
  go_wp2_with fail
  refine F28.out.mono ?_
  rintro e w3 ⟨rfl, G3, h3, -⟩
  have H0 : Hid (SlI w b k pr (.int .i64 0) (.int .i64 0) w3) := ⟨0, G3, [newO 1 [] [77]], 0, Nat.zero_le _, rfl, rfl, h3, ⟨rfl, by kernel_rfl⟩, by decide⟩
  clear F28 H2 H1 h3
  go_wp2_with fail
  go_loopw [14, 15] (fun av iv wr => SlI w b k pr av iv wr) (fun _ iv _ => k - (intOf iv).toNat)
  case atStart => exact H0.out
  case round =>
    clear H0
    obtain ⟨i, G, os, x, hi, rfl, rfl, hl, hch, htot⟩ := hrel
    have HL9 := Lib.hid hl
    have HCH := Lib.hid hch
    clear hl hch
    by_cases hik : i < k
    · have q1 : decide ((i : Int) < (k : Int)) = true := decide_eq_true (by omega)
      have hxv := vd_ok HCH.out.vd (show total os ≤ 200 by omega) (by omega)
      have hfit2 : fitF (2 : Nat) [x, x] [] = true := rfl
      have hfit4 : fitF (4 : Nat) [x] [3] = true := rfl
      cases pr with
      | true =>
        have H2 := Lib.hid (HL9.out.drops (.cells #[.int .i64 x, .int .i64 x] 3))
        have F28 := Lib.hid (H2.out.alloc 2 [x, x] [] (.slice (some ⟨wr.heap.size, 0, none⟩) 2 2) (.slice none 0 0) (two_isS wr x x) (nil_isS _) (HL9.out.apart2 (Nat.le_refl _)) (apart_nil _ _) (fun p hp => by simp at hp; rw [hp]; exact hxv) hfit2 (by show total os + 3 ≤ 200; omega))
        have HF := Lib.hid (fun (w' : World) (G' : Option Nat) (h : HL w w' b G' (os ++ [newO 2 [x, x] []]) 200) => (show HL w w' b G' (os ++ [lnk true x]) 200 from h))
        clear hxv hfit2 hfit4
        go_wp2_with fail
        refine F28.out.mono ?_
        rintro e w4 ⟨rfl, G4, h4, -⟩
        have H4 := Lib.hid (HF.out w4 G4 h4)
        clear F28 H2 h4 HF HL9
        by_cases hil : i < len
        · have q2 : decide ((i : Int) < (len : Int)) = true := decide_eq_true (by omega)
          obtain ⟨y, z, rfl, hc, hz⟩ := (HA.out.below (H4.out.bel)).2 i hil
          obtain ⟨v, hv2, -, F⟩ := within_at14 z 2 hz (by omega) (by omega) w4
          have FW := Lib.hid F
          have HW : Hid ((v : Int) = 0 ∨ (v : Int) = 1) := by show _ ∨ _; omega
          have hfit6 : fitF (6 : Nat) [((total os : Nat) : Int)] [(v : Int)] = true := by rcases HW.out with e | e <;> rw [e] <;> rfl
          clear F hz
          have h5 := H4.out.drops (.cells #[.int .i64 (total os : Nat)] 3)
          have hi5 := one_isS w4 (total os : Nat)
          have ha5 : Apart (.slice (some ⟨w4.heap.size, 0, none⟩) 1 1) b G4 := H4.out.apart2 (Nat.le_refl _)
          have ha6 : Apart (.slice (some ⟨(w4.alloc (.cells #[.int .i64 (total os : Nat)] 3)).heap.size, 0, none⟩) 1 1) b G4 := h5.apart2 (Nat.le_refl _)
          have hi6 := one_isS (w4.alloc (.cells #[.int .i64 (total os : Nat)] 3)) (v : Int)
          have h6 := h5.drops (.cells #[.int .i64 (v : Int)] 3)
          have hi5' := hi5.below ((Below.refl _ _).alloc (Nat.le_refl _) (.cells #[.int .i64 (v : Int)] 3))
          have htt : total (os ++ [lnk true x]) = total os + 3 := by rw [total_append]; simp only [total, lnk_size]
          have hvv : Vd (os ++ [lnk true x]) (total os : Nat) := ⟨_, ob_last _ _⟩
          have F28 := Lib.hid (h6.alloc 6 [(total os : Nat)] [(v : Int)] _ _ hi5' hi6 ha5 ha6 (fun p hp => by rw [List.mem_singleton.1 hp]; exact vd_ok hvv (show total (os ++ [lnk true x]) ≤ 200 by omega) (by omega)) (hfit6) (by show total (os ++ [lnk true x]) + 3 ≤ 200; omega))
          have z1 : (w4.alloc (.cells #[.int .i64 (total os : Nat)] 3)).heap.size = w4.heap.size + 1 := by simp
          rw [z1] at F28
          clear h5 hi5 ha5 ha6 hi6 h6 hi5' htt hvv z1
          clear hfit6
          go_wp2_with fail
          refine FW.out.mono ?_
          rintro e w9 ⟨rfl, rfl⟩
          clear FW
          go_wp2_with fail
          refine F28.out.mono ?_
          rintro e w5 ⟨rfl, G5, h5, -⟩
          have HREL := Lib.hid (sl_fin hik h5 HCH.out htot HW.out)
          clear F28 h5 H4 HCH
          go_wp2_with fail
          go_roundw
          case rel => exact HREL.out
          case measure => simp [intOf]; omega
        · have q2 : decide ((i : Int) < (len : Int)) = false := decide_eq_false (by omega)
          skip
          have h5 := H4.out.drops (.cells #[.int .i64 (total os : Nat)] 3)
          have hi5 := one_isS w4 (total os : Nat)
          have ha5 : Apart (.slice (some ⟨w4.heap.size, 0, none⟩) 1 1) b G4 := H4.out.apart2 (Nat.le_refl _)
          have ha6 : Apart (.slice (some ⟨(w4.alloc (.cells #[.int .i64 (total os : Nat)] 3)).heap.size, 0, none⟩) 1 1) b G4 := h5.apart2 (Nat.le_refl _)
          have hi6 := one_isS (w4.alloc (.cells #[.int .i64 (total os : Nat)] 3)) 0
          have h6 := h5.drops (.cells #[.int .i64 0] 3)
          have hi5' := hi5.below ((Below.refl _ _).alloc (Nat.le_refl _) (.cells #[.int .i64 0] 3))
          have htt : total (os ++ [lnk true x]) = total os + 3 := by rw [total_append]; simp only [total, lnk_size]
          have hvv : Vd (os ++ [lnk true x]) (total os : Nat) := ⟨_, ob_last _ _⟩
          have F28 := Lib.hid (h6.alloc 6 [(total os : Nat)] [0] _ _ hi5' hi6 ha5 ha6 (fun p hp => by rw [List.mem_singleton.1 hp]; exact vd_ok hvv (show total (os ++ [lnk true x]) ≤ 200 by omega) (by omega)) (rfl) (by show total (os ++ [lnk true x]) + 3 ≤ 200; omega))
          have z1 : (w4.alloc (.cells #[.int .i64 (total os : Nat)] 3)).heap.size = w4.heap.size + 1 := by simp
          rw [z1] at F28
          clear h5 hi5 ha5 ha6 hi6 h6 hi5' htt hvv z1
          go_wp2_with fail
          refine F28.out.mono ?_
          rintro e w5 ⟨rfl, G5, h5, -⟩
          have HREL := Lib.hid (sl_fin hik h5 HCH.out htot (.inl rfl))
          clear F28 h5 H4 HCH
          go_wp2_with fail
          go_roundw
          case rel => exact HREL.out
          case measure => simp [intOf]; omega
      | false =>
        have h2 := HL9.out.drops (.cells #[.int .i64 x, .int .i64 x] 3)
        have hs2 : wr.heap.size < (wr.alloc (.cells #[.int .i64 x, .int .i64 x] 3)).heap.size := by simp
        have h3 := h2.drops (.cells #[.int .i64 x] 3)
        have hi1 := one_isS (wr.alloc (.cells #[.int .i64 x, .int .i64 x] 3)) x
        have hs3 : (wr.alloc (.cells #[.int .i64 x, .int .i64 x] 3)).heap.size < ((wr.alloc (.cells #[.int .i64 x, .int .i64 x] 3)).alloc (.cells #[.int .i64 x] 3)).heap.size := by simp
        have ha1 : Apart (.slice (some ⟨(wr.alloc (.cells #[.int .i64 x, .int .i64 x] 3)).heap.size, 0, none⟩) 1 1) b G := h2.apart2 (Nat.le_refl _)
        have ha3 : Apart (.slice (some ⟨((wr.alloc (.cells #[.int .i64 x, .int .i64 x] 3)).alloc (.cells #[.int .i64 x] 3)).heap.size, 0, none⟩) 1 1) b G := h3.apart2 (Nat.le_refl _)
        have hi3 := one_isS ((wr.alloc (.cells #[.int .i64 x, .int .i64 x] 3)).alloc (.cells #[.int .i64 x] 3)) 3
        have h4 := h3.drops (.cells #[.int .i64 3] 3)
        have hi1' := hi1.below ((Below.refl _ _).alloc (Nat.le_refl _) (.cells #[.int .i64 3] 3))
        have F28 := Lib.hid (h4.alloc 4 [x] [3] _ _ hi1' hi3 ha1 ha3 (fun p hp => by simp at hp; rw [hp]; exact hxv) hfit4 (by show total os + 3 ≤ 200; omega))
        have HF := Lib.hid (fun (w' : World) (G' : Option Nat) (h : HL w w' b G' (os ++ [newO 4 [x] [3]]) 200) => (show HL w w' b G' (os ++ [lnk false x]) 200 from h))
        have z1 : (wr.alloc (.cells #[.int .i64 x, .int .i64 x] 3)).heap.size = wr.heap.size + 1 := by simp
        have z2 : ((wr.alloc (.cells #[.int .i64 x, .int .i64 x] 3)).alloc (.cells #[.int .i64 x] 3)).heap.size = wr.heap.size + 1 + 1 := by simp
        rw [z1, z2] at F28
        clear hxv hfit2 hfit4 h2 h3 h4 hs2 hs3 hi1 hi1' hi3 ha1 ha3 z1 z2
        go_wp2_with fail
        refine F28.out.mono ?_
        rintro e w4 ⟨rfl, G4, h4, -⟩
        have H4 := Lib.hid (HF.out w4 G4 h4)
        clear F28 h4 HF HL9
        by_cases hil : i < len
        · have q2 : decide ((i : Int) < (len : Int)) = true := decide_eq_true (by omega)
          obtain ⟨y, z, rfl, hc, hz⟩ := (HA.out.below (H4.out.bel)).2 i hil
          obtain ⟨v, hv2, -, F⟩ := within_at14 z 2 hz (by omega) (by omega) w4
          have FW := Lib.hid F
          have HW : Hid ((v : Int) = 0 ∨ (v : Int) = 1) := by show _ ∨ _; omega
          have hfit6 : fitF (6 : Nat) [((total os : Nat) : Int)] [(v : Int)] = true := by rcases HW.out with e | e <;> rw [e] <;> rfl
          clear F hz
          have h5 := H4.out.drops (.cells #[.int .i64 (total os : Nat)] 3)
          have hi5 := one_isS w4 (total os : Nat)
          have ha5 : Apart (.slice (some ⟨w4.heap.size, 0, none⟩) 1 1) b G4 := H4.out.apart2 (Nat.le_refl _)
          have ha6 : Apart (.slice (some ⟨(w4.alloc (.cells #[.int .i64 (total os : Nat)] 3)).heap.size, 0, none⟩) 1 1) b G4 := h5.apart2 (Nat.le_refl _)
          have hi6 := one_isS (w4.alloc (.cells #[.int .i64 (total os : Nat)] 3)) (v : Int)
          have h6 := h5.drops (.cells #[.int .i64 (v : Int)] 3)
          have hi5' := hi5.below ((Below.refl _ _).alloc (Nat.le_refl _) (.cells #[.int .i64 (v : Int)] 3))
          have htt : total (os ++ [lnk false x]) = total os + 3 := by rw [total_append]; simp only [total, lnk_size]
          have hvv : Vd (os ++ [lnk false x]) (total os : Nat) := ⟨_, ob_last _ _⟩
          have F28 := Lib.hid (h6.alloc 6 [(total os : Nat)] [(v : Int)] _ _ hi5' hi6 ha5 ha6 (fun p hp => by rw [List.mem_singleton.1 hp]; exact vd_ok hvv (show total (os ++ [lnk false x]) ≤ 200 by omega) (by omega)) (hfit6) (by show total (os ++ [lnk false x]) + 3 ≤ 200; omega))
          have z1 : (w4.alloc (.cells #[.int .i64 (total os : Nat)] 3)).heap.size = w4.heap.size + 1 := by simp
          rw [z1] at F28
          clear h5 hi5 ha5 ha6 hi6 h6 hi5' htt hvv z1
          clear hfit6
          go_wp2_with fail
          refine FW.out.mono ?_
          rintro e w9 ⟨rfl, rfl⟩
          clear FW
          go_wp2_with fail
          refine F28.out.mono ?_
          rintro e w5 ⟨rfl, G5, h5, -⟩
          have HREL := Lib.hid (sl_fin hik h5 HCH.out htot HW.out)
          clear F28 h5 H4 HCH
          go_wp2_with fail
          go_roundw
          case rel => exact HREL.out
          case measure => simp [intOf]; omega
        · have q2 : decide ((i : Int) < (len : Int)) = false := decide_eq_false (by omega)
          skip
          have h5 := H4.out.drops (.cells #[.int .i64 (total os : Nat)] 3)
          have hi5 := one_isS w4 (total os : Nat)
          have ha5 : Apart (.slice (some ⟨w4.heap.size, 0, none⟩) 1 1) b G4 := H4.out.apart2 (Nat.le_refl _)
          have ha6 : Apart (.slice (some ⟨(w4.alloc (.cells #[.int .i64 (total os : Nat)] 3)).heap.size, 0, none⟩) 1 1) b G4 := h5.apart2 (Nat.le_refl _)
          have hi6 := one_isS (w4.alloc (.cells #[.int .i64 (total os : Nat)] 3)) 0
          have h6 := h5.drops (.cells #[.int .i64 0] 3)
          have hi5' := hi5.below ((Below.refl _ _).alloc (Nat.le_refl _) (.cells #[.int .i64 0] 3))
          have htt : total (os ++ [lnk false x]) = total os + 3 := by rw [total_append]; simp only [total, lnk_size]
          have hvv : Vd (os ++ [lnk false x]) (total os : Nat) := ⟨_, ob_last _ _⟩
          have F28 := Lib.hid (h6.alloc 6 [(total os : Nat)] [0] _ _ hi5' hi6 ha5 ha6 (fun p hp => by rw [List.mem_singleton.1 hp]; exact vd_ok hvv (show total (os ++ [lnk false x]) ≤ 200 by omega) (by omega)) (rfl) (by show total (os ++ [lnk false x]) + 3 ≤ 200; omega))
          have z1 : (w4.alloc (.cells #[.int .i64 (total os : Nat)] 3)).heap.size = w4.heap.size + 1 := by simp
          rw [z1] at F28
          clear h5 hi5 ha5 ha6 hi6 h6 hi5' htt hvv z1
          go_wp2_with fail
          refine F28.out.mono ?_
          rintro e w5 ⟨rfl, G5, h5, -⟩
          have HREL := Lib.hid (sl_fin hik h5 HCH.out htot (.inl rfl))
          clear F28 h5 H4 HCH
          go_wp2_with fail
          go_roundw
          case rel => exact HREL.out
          case measure => simp [intOf]; omega
    · obtain rfl : i = k := by omega
      have q1 : decide ((i : Int) < (i : Int)) = false := decide_eq_false (by omega)
      have HOK := Lib.hid HL9.out.hp.2.1
      have HCL := Lib.hid HL9.out.hp.2.2.1
      have H2 := Lib.hid (HL9.out.drops (.cells #[.int .i64 x] 3))
      have F16 := Lib.hid (collect_yes H2.out.hp d (by omega) (.slice (some ⟨wr.heap.size, 0, none⟩) 1 1) [x] (one_isS wr x) (HL9.out.apart2 (Nat.le_refl _)) (by simp) (fun r hr => by rw [List.mem_singleton.1 hr]; exact HCH.out.vd))
      clear HL9
      go_wp2_with fail
      refine F16.out.mono ?_
      rintro e w4 hr
      obtain ⟨b4, g4, G4, rfl, ha4, hb4, -, -⟩ := H2.out.gc hr
      obtain ⟨h4, h2, hi4, -⟩ := ha4
      obtain ⟨y, hy⟩ : ∃ y, y = ph os d [x] (shortO os d x) := ⟨_, rfl⟩
      have hyr : gcR os d [x] = [y] := by rw [hy]; rfl
      rw [hyr] at hi4
      have hty := gc_root_tag HCL.out HOK.out d HCH.out.vd
      rw [← hy] at hty
      have c4 := hi4.cell? (j := 0) (v := y) rfl
      have H4 := Lib.hid h4
      have HB := Lib.hid h4.bel
      have htm : total (gcO os d [x]) ≤ 200 := h4.hp.2.2.2.2
      have hyv : Vd (gcO os d [x]) y := by rw [hy]; exact ⟨_, gcO_ob HCL.out HOK.out d (fun r hr => by rw [List.mem_singleton.1 hr]; exact HCH.out.vd) (allD_roots d x (by simp))⟩
      have hyb := vd_lt hyv
      have F22 := Lib.hid (tagm_any h4.hp y (by omega) (by omega))
      rw [hty] at F22
      have F20 : Hid (∀ W, Below w4.heap.size w4 W → Calls Try.prog 20 #[.pointer (some ⟨b4, 0, none⟩)] W fun e w' => e = .returned (.int .i64 (total (gcO os d [x]) : Nat)) ∧ W = w') := fun W hb => by
        have := used_any (H4.out.below hb).hp.1; rw [wds_length] at this; exact this
      have F21 : Hid (∀ W, Below w4.heap.size w4 W → Calls Try.prog 20 #[.pointer (some ⟨b, 0, none⟩)] W fun e w' => e = .returned (.int .i64 (total os : Nat)) ∧ W = w') := fun W hb => by
        have := used_any (h2.below hb).hp.1; rw [wds_length] at this; exact this
      have hless := gcO_less HCL.out HOK.out d (rs := [x]) (fun r hr => by rw [List.mem_singleton.1 hr]; exact HCH.out.vd)
      have hle : total (gcO os d [x]) ≤ total os := by omega
      have hused : pr = true → i ≤ d → total (gcO os d [x]) = 2 := fun e1 e2 => by subst e1; exact HCH.out.used HCL.out HOK.out e2 HCH.out.zero
      clear hr h4 h2 hb4 hi4 H2 F16 hyr hy hty hyv hless H4
      simp only [List.length_cons, List.length_nil]
      by_cases h0 : pr = false ∨ d = 0
      · have ht6 : (hdo os (shortO os d x)).t = 6 := by
          rcases h0 with h0 | h0
          · subst h0
            obtain ⟨j, rfl⟩ : ∃ j, i = j + 1 := ⟨i - 1, by omega⟩
            exact HCH.out.stay d
          · cases pr with
            | true => exact (Ch.short d i x HCH.out).2 (by omega)
            | false =>
              obtain ⟨j, rfl⟩ : ∃ j, i = j + 1 := ⟨i - 1, by omega⟩
              exact HCH.out.stay d
        rw [ht6] at F22
        clear ht6 hused hle F20 F21 HCH
        cases pr with
        | false =>
          go_wp2_with fail
          refine F22.out.mono ?_
          rintro e w5 ⟨rfl, hb5⟩
          have HB5 := Lib.hid (HB.out.trans (hb5.mono HB.out.size))
          clear hb5
          go_wp2_with fail
          go_ret
          exact ⟨rfl, HB5.out⟩
        | true =>
          obtain rfl : d = 0 := by rcases h0 with h0 | h0; cases h0; exact h0
          go_wp2_with fail
          refine F22.out.mono ?_
          rintro e w5 ⟨rfl, hb5⟩
          have HB5 := Lib.hid (HB.out.trans (hb5.mono HB.out.size))
          clear hb5
          go_wp2_with fail
          go_ret
          exact ⟨rfl, HB5.out⟩
      · obtain rfl : pr = true := by cases pr with | true => rfl | false => exact absurd (.inl rfl) h0
        have hd0 : 0 < d := by apply Nat.pos_of_ne_zero; exact fun e => h0 (.inr e)
        have q0 : ((d : Int) == 0) = false := by
          have : ¬ (d : Int) = 0 := by omega
          simpa using this
        have hsh := Ch.short d i x HCH.out
        by_cases hid : i ≤ d
        · have q2 : decide ((i : Int) ≤ (d : Int)) = true := decide_eq_true (by omega)
          have h1 := hsh.1 hid
          have ht1 : (hdo os (shortO os d x)).t = 1 := by rw [h1, hdo_tag HCH.out.zero]; rfl
          rw [ht1] at F22
          have hu := hused rfl hid
          rw [hu] at F20
          clear ht1 hused hle F21 HCH hsh h1 hu
          go_wp2_with fail
          refine F22.out.mono ?_
          rintro e w5 ⟨rfl, hb5⟩
          have HB5 := Lib.hid (HB.out.trans (hb5.mono HB.out.size))
          go_wp2_with fail
          refine (F20.out w5 hb5).mono ?_
          rintro e w6 ⟨rfl, rfl⟩
          clear hb5
          go_wp2_with fail
          go_ret
          exact ⟨rfl, HB5.out⟩
        · have q2 : decide ((i : Int) ≤ (d : Int)) = false := decide_eq_false (by omega)
          have ht6 := hsh.2 (by omega)
          rw [ht6] at F22
          have q3 : decide ((total (gcO os d [x]) : Int) ≤ (total os : Int)) = true := decide_eq_true (by omega)
          clear ht6 hused HCH hsh
          generalize total (gcO os d [x]) = u1 at F20 hle q3 htm
          generalize total os = u2 at F21 hle q3 htot
          go_wp2_with fail
          refine F22.out.mono ?_
          rintro e w5 ⟨rfl, hb5⟩
          have HB5 := Lib.hid (HB.out.trans (hb5.mono HB.out.size))
          go_wp2_with fail
          refine (F20.out w5 hb5).mono ?_
          rintro e w6 ⟨rfl, rfl⟩
          go_wp2_with fail
          refine (F21.out w5 hb5).mono ?_
          rintro e w6 ⟨rfl, rfl⟩
          clear hb5
          go_wp2_with fail
          go_ret
          exact ⟨rfl, HB5.out⟩
end Go.Proofs.Ytjecjlnkpbbanaa
