/- GcDeeper, walked. -/
import Derived.Test.YtjecjlnkpbbanaaL21
import Derived.Test.YtjecjlnkpbbanaaG2
namespace Go.Proofs.Ytjecjlnkpbbanaa
open Go Go.RowKit
set_option linter.unusedVariables false
set_option linter.unusedSimpArgs false
set_option maxHeartbeats 16000000 in
set_option maxRecDepth 100000 in
theorem deeper_walk (a : Option Addr) (len cap : Nat) (zs : List Int) (a2 : Option Addr) (len2 cap2 : Nat) (zs2 : List Int) (deep : Int) (w : World) (hA : IsRow .i64 w a len cap zs) (hA2 : IsRow .i64 w a2 len2 cap2 zs2) (hd : I64 deep) :
    Calls Try.prog 11 #[.slice a len cap, .slice a2 len2 cap2, .int .i64 deep] w (RetV (.bool true) w) := by
  have HA := Lib.hid hA.arg
  have HA2 := Lib.hid hA2.arg
  clear hA hA2 zs zs2
  go_enter Try.func11, Try.ntmps11
  go_wp2_with fail
  refine (known_any w).mono ?_
  rintro e wk ⟨rfl, hbk⟩
  have HBK := Lib.hid hbk
  clear hbk
  go_wp2_with fail
  refine (both_any a len cap wk (HA.out.below HBK.out)).mono ?_
  rintro e w1 ⟨b, x, G, C, qs, os, rfl, hp⟩
  have HP := Lib.hid (hp.base HBK.out)
  clear hp HA
  go_wp2_with fail
  obtain ⟨d, hd20, -, F⟩ := within_at14 deep 20 hd (by omega) (by omega) w1
  refine F.mono ?_
  rintro e w2 ⟨rfl, rfl⟩
  clear F hd
  go_wp2_with fail
  refine (roots_any HP.out.rh a2 len2 cap2 (HA2.out.below HP.out.hl.bel)).mono ?_
  rintro e w2 ⟨ro, rc, rs, rfl, hown, hrl, hrv, hb2⟩
  have HP2 := Lib.hid (HP.out.below hb2)
  have HRS := Lib.hid (own_isS hown)
  have HAP := Lib.hid (apart_own (b := b) (G := G) hown HP.out.hl.hp.1.lt (fun k hk => (HP.out.hl.hp.1.glt k hk).1))
  have HRV := Lib.hid hrv
  obtain ⟨n, hn⟩ : ∃ n, n = rs.length := ⟨_, rfl⟩
  rw [← hn] at HRS HAP hrl ⊢
  have HN := Lib.hid hn
  have F0 := Lib.hid (collect_yes HP2.out.hl.hp 0 (by omega) (.slice ro n rc) rs HRS.out HAP.out (by rw [← HN.out]; omega) HRV.out)
  clear hown hrv hb2 HP hn HA2
  go_wp2_with fail
  refine F0.out.mono ?_
  rintro e w3 hr
  obtain ⟨b3, g3, G3, rfl, ha3, hb3, -, -⟩ := HP2.out.hl.gc hr
  obtain ⟨h3, h2, -⟩ := ha3
  have H3 := Lib.hid h3
  have H2 := Lib.hid h2
  have HRS3 := Lib.hid (HRS.out.below hb3)
  have FD := Lib.hid (collect_yes H2.out.hp d (by omega) (.slice ro n rc) rs HRS3.out HAP.out (by rw [← HN.out]; omega) HRV.out)
  clear hr h3 h2 hb3 HP2 HRS F0
  go_wp2_with fail
  refine FD.out.mono ?_
  rintro e w4 hr
  obtain ⟨b4, g4, G4, rfl, ha4, hb4, -, -⟩ := H2.out.gc hr
  obtain ⟨h4, h2, -⟩ := ha4
  have H4 := Lib.hid h4
  have H24 := Lib.hid h2
  have H34 := Lib.hid (H3.out.below hb4)
  clear hr h4 h2 hb4 H3 H2 HRS3 FD
  have hless := gcO_less H24.out.hp.2.2.1 H24.out.hp.2.1 d HRV.out
  have hz : d = 0 → total (gcO os d rs) = total (gcO os 0 rs) := fun e => by rw [e]
  have F4 : Hid (Calls Try.prog 20 #[.pointer (some ⟨b4, 0, none⟩)] w4 fun e w' => e = .returned (.int .i64 (total (gcO os d rs) : Nat)) ∧ w4 = w') := by
    have := used_any H4.out.hp.1; rw [wds_length] at this; exact this
  have F3 : Hid (Calls Try.prog 20 #[.pointer (some ⟨b3, 0, none⟩)] w4 fun e w' => e = .returned (.int .i64 (total (gcO os 0 rs) : Nat)) ∧ w4 = w') := by
    have := used_any H34.out.hp.1; rw [wds_length] at this; exact this
  have F2 : Hid (Calls Try.prog 20 #[.pointer (some ⟨b, 0, none⟩)] w4 fun e w' => e = .returned (.int .i64 (total os : Nat)) ∧ w4 = w') := by
    have := used_any H24.out.hp.1; rw [wds_length] at this; exact this
  have HB := Lib.hid H24.out.bel
  generalize total (gcO os d rs) = x4 at hless hz F4
  generalize total (gcO os 0 rs) = x3 at hless hz F3
  generalize total os = x2 at hless F2
  obtain ⟨l1, l2⟩ := hless
  have q1 : decide ((x4 : Int) ≤ (x3 : Int)) = true := decide_eq_true (by omega)
  have q2 : decide ((x3 : Int) ≤ (x2 : Int)) = true := decide_eq_true (by omega)
  clear H4 H24 H34
  by_cases h0 : 0 < d
  · have q3 : decide ((0 : Int) < (d : Int)) = true := decide_eq_true (by omega)
    clear hz
    go_wp2_with fail
    refine F4.out.mono ?_
    rintro e w5 ⟨rfl, rfl⟩
    go_wp2_with fail
    refine F3.out.mono ?_
    rintro e w5 ⟨rfl, rfl⟩
    go_wp2_with fail
    refine F3.out.mono ?_
    rintro e w5 ⟨rfl, rfl⟩
    go_wp2_with fail
    refine F2.out.mono ?_
    rintro e w5 ⟨rfl, rfl⟩
    go_wp2_with fail
    go_ret
    exact ⟨rfl, HB.out⟩
  · have q3 : decide ((0 : Int) < (d : Int)) = false := decide_eq_false (by omega)
    obtain rfl := hz (by omega)
    have q4 : ((x4 : Int) == (x4 : Int)) = true := by simp
    clear hz
    go_wp2_with fail
    refine F4.out.mono ?_
    rintro e w5 ⟨rfl, rfl⟩
    go_wp2_with fail
    refine F3.out.mono ?_
    rintro e w5 ⟨rfl, rfl⟩
    go_wp2_with fail
    refine F3.out.mono ?_
    rintro e w5 ⟨rfl, rfl⟩
    go_wp2_with fail
    refine F2.out.mono ?_
    rintro e w5 ⟨rfl, rfl⟩
    go_wp2_with fail
    refine F3.out.mono ?_
    rintro e w5 ⟨rfl, rfl⟩
    go_wp2_with fail
    refine F4.out.mono ?_
    rintro e w5 ⟨rfl, rfl⟩
    go_wp2_with fail
    go_ret
    exact ⟨rfl, HB.out⟩
end Go.Proofs.Ytjecjlnkpbbanaa
