/- HeapApart, walked. -/
import Derived.Test.YtogpmpnojlepoaaLP
namespace Go.Proofs.Ytogpmpnojlepoaa
open Go Go.RowKit
set_option linter.unusedVariables false
set_option linter.unusedSimpArgs false
/-- Two pairs that share nothing. -/
def Two (B w : World) (b x g y : Nat) (G : Option Nat) (C : Nat → Nat) (qs : List Nat) (os : List Ob) (G2 : Option Nat) (C2 : Nat → Nat) (qs2 : List Nat) (os2 : List Ob) : Prop :=
  Pr B w b x G C qs os 200 ∧ Pr B w g y G2 C2 qs2 os2 100 ∧ ∀ k, fp b G C k → ¬ fp g G2 C2 k
def ApInv (B : World) (b x g y : Nat) (iv : Value) (wr : World) : Prop := ∃ (i : Nat) (G : Option Nat) (C : Nat → Nat) (qs : List Nat) (os : List Ob) (G2 : Option Nat) (C2 : Nat → Nat) (qs2 : List Nat) (os2 : List Ob), i ≤ 40 ∧ iv = .int .i64 (i : Int) ∧ Two B wr b x g y G C qs os G2 C2 qs2 os2
theorem two_a {v : Value} {B w w' : World} {b x g y : Nat} {G : Option Nat} {C : Nat → Nat} {qs : List Nat} {os : List Ob} {G2 : Option Nat} {C2 : Nat → Nat} {qs2 : List Nat} {os2 : List Ob} {e : Ending}
    (h : Two B w b x g y G C qs os G2 C2 qs2 os2) (hr : RetPr v B b x 200 G C w e w') : e = .returned v ∧ ∃ G' C' qs' os', Two B w' b x g y G' C' qs' os' G2 C2 qs2 os2 := by
  obtain ⟨he, G', C', qs', os', h1, h2, h3⟩ := hr
  refine ⟨he, G', C', qs', os', h1, h.2.1.fr h2 h.2.2 (fun k hk e => by have := (h.1.low k e).1; omega), fun k hk e => ?_⟩
  rcases h3 k hk with h4 | h4
  · exact h.2.2 k h4 e
  · have := (h.2.1.low k e).2; omega
theorem two_b {v : Value} {B w w' : World} {b x g y : Nat} {G : Option Nat} {C : Nat → Nat} {qs : List Nat} {os : List Ob} {G2 : Option Nat} {C2 : Nat → Nat} {qs2 : List Nat} {os2 : List Ob} {e : Ending}
    (h : Two B w b x g y G C qs os G2 C2 qs2 os2) (hr : RetPr v B g y 100 G2 C2 w e w') : e = .returned v ∧ ∃ G' C' qs' os', Two B w' b x g y G C qs os G' C' qs' os' := by
  obtain ⟨he, G', C', qs', os', h1, h2, h3⟩ := hr
  refine ⟨he, G', C', qs', os', h.1.fr h2 (fun k hk e => h.2.2 k e hk) (fun k hk e => by have := (h.2.1.low k e).1; omega), h1, fun k hk e => ?_⟩
  rcases h3 k e with h4 | h4
  · exact h.2.2 k hk h4
  · have := (h.1.low k hk).2; omega
set_option maxHeartbeats 16000000 in
set_option maxRecDepth 100000 in
theorem apart_walk (a : Option Addr) (len cap : Nat) (zs : List Int) (a2 : Option Addr) (len2 cap2 : Nat) (zs2 : List Int) (w : World) (hA : IsRow .i64 w a len cap zs) (hA2 : IsRow .i64 w a2 len2 cap2 zs2) : Calls Try.prog 11 #[.slice a len cap, .slice a2 len2 cap2] w (RetV (.bool true) w) := by
  have HA := Lib.hid hA.arg
  have hlen := hA.arg.1
  have HA2 := Lib.hid hA2.arg
  have hlen2 := hA2.arg.1
  clear hA hA2
  go_enter Try.func11, Try.ntmps11
  go_wp2_with fail
  refine (known_any w).mono ?_
  rintro e wk ⟨rfl, hbk⟩
  have HBK := Lib.hid hbk
  clear hbk
  go_wp2_with fail
  refine (new_any 200 (by omega) (by omega) wk).mono ?_
  rintro e w1 ⟨rfl, hw1⟩
  have HW1 := Lib.hid hw1
  clear hw1
  obtain ⟨b, hb⟩ : ∃ b, b = wk.heap.size := ⟨_, rfl⟩
  rw [← hb]
  have HB0 := Lib.hid hb
  clear hb
  go_wp2_with fail
  refine (new_r 200 w1).mono ?_
  rintro e w2 ⟨rfl, hw2⟩
  have HN : Hid (∃ C, Pr w w2 b w1.heap.size none C [] [] 200) := by
    obtain ⟨C, h, -, -⟩ := Pr.new HBK.out 200 (by omega) HW1.out hw2
    rw [← HB0.out] at h
    exact ⟨C, h⟩
  clear hw2 HW1 HB0 HBK
  obtain ⟨x, hx⟩ : ∃ x, x = w1.heap.size := ⟨_, rfl⟩
  rw [← hx] at HN ⊢
  clear hx
  go_wp2_with fail
  refine (new_any 100 (by omega) (by omega) w2).mono ?_
  rintro e w3 ⟨rfl, hw3⟩
  have HW3 := Lib.hid hw3
  clear hw3
  obtain ⟨g, hg⟩ : ∃ g, g = w2.heap.size := ⟨_, rfl⟩
  rw [← hg]
  have HG0 := Lib.hid hg
  clear hg
  go_wp2_with fail
  refine (new_r 100 w3).mono ?_
  rintro e w4 ⟨rfl, hw4⟩
  obtain ⟨y, hy⟩ : ∃ y, y = w3.heap.size := ⟨_, rfl⟩
  have HN2 : Hid (∃ C C2, Two w w4 b x g y none C [] [] none C2 [] []) := by
    obtain ⟨C, h⟩ := HN.out
    obtain ⟨C2, h2, h3, h4⟩ := Pr.new h.hl.bel 100 (by omega) HW3.out hw4
    rw [← HG0.out, ← hy] at h2
    rw [← HG0.out] at h3
    refine ⟨C, C2, h.below h4, h2, fun k hk e => ?_⟩
    have := (h.low k hk).2
    have := h3 k e
    have := HG0.out
    omega
  rw [← hy]
  clear hw4 HW3 HG0 HN hy
  obtain ⟨C, C2, hp⟩ := HN2.out
  have H0 : Hid (ApInv w b x g y (.int .i64 0) w4) := ⟨0, none, C, [], [], none, C2, [], [], Nat.zero_le _, rfl, hp⟩
  clear hp HN2
  go_wp2_with fail
  go_loopw [9] (fun iv wr => ApInv w b x g y iv wr) (fun iv _ => 40 - (intOf iv).toNat)
  case atStart => exact H0.out
  case round =>
    clear H0
    obtain ⟨i, G, C, qs, os, G2, C2, qs2, os2, hi, rfl, hp⟩ := hrel
    have HJ := Lib.hid hp
    clear hp
    by_cases hgo : i < len ∧ i < 40
    · obtain ⟨hil, hi40⟩ := hgo
      have q1 : decide ((i : Int) < (len : Int)) = true := decide_eq_true (by omega)
      have q2 : decide ((i : Int) < 40) = true := decide_eq_true (by omega)
      obtain ⟨p, z, rfl, hc, hz⟩ := (HA.out.below HJ.out.1.hl.bel).2 i hil
      by_cases hi2 : i < len2
      · have q3 : decide ((i : Int) < (len2 : Int)) = true := decide_eq_true (by omega)
        obtain ⟨p2, z2, rfl, hc2, hz2⟩ := (HA2.out.below HJ.out.1.hl.bel).2 i hi2
        have F16 := Lib.hid (step_r HJ.out.2.1 z2 3 hz2 (by unfold I64; omega))
        clear hz hz2 hc
        go_wp2_with fail
        refine F16.out.mono ?_
        rintro e w5 h5
        obtain ⟨rfl, h6⟩ := two_b HJ.out h5
        have H6 := Lib.hid h6
        clear h5 h6 F16 HJ
        obtain ⟨G2, C2, qs2, os2, h7⟩ := H6.out
        have HJ := Lib.hid h7
        clear h7 H6
        obtain ⟨p', z, hpe, hc, hz⟩ := (HA.out.below HJ.out.1.hl.bel).2 i hil
        injection hpe with hpe
        subst hpe
        have F := Lib.hid (step_r HJ.out.1 z 4 hz (by unfold I64; omega))
        clear hz
        go_wp2_with fail
        refine F.out.mono ?_
        rintro e w6 h6
        obtain ⟨rfl, h7⟩ := two_a HJ.out h6
        have HR : Hid (ApInv w b x g y (.int .i64 ((i : Int) + 1)) w6) := by
          obtain ⟨G6, C6, qs6, os6, h8⟩ := h7
          exact ⟨i + 1, G6, C6, qs6, os6, G2, C2, qs2, os2, by omega, by go_num, h8⟩
        clear h6 h7 F HJ
        go_wp2_with fail
        go_roundw
        case rel => exact HR.out
        case measure => simp [intOf]; omega
      · have q3 : decide ((i : Int) < (len2 : Int)) = false := decide_eq_false (by omega)
        have F := Lib.hid (step_r HJ.out.1 z 4 hz (by unfold I64; omega))
        clear hz
        go_wp2_with fail
        refine F.out.mono ?_
        rintro e w6 h6
        obtain ⟨rfl, h7⟩ := two_a HJ.out h6
        have HR : Hid (ApInv w b x g y (.int .i64 ((i : Int) + 1)) w6) := by
          obtain ⟨G6, C6, qs6, os6, h8⟩ := h7
          exact ⟨i + 1, G6, C6, qs6, os6, G2, C2, qs2, os2, by omega, by go_num, h8⟩
        clear h6 h7 F HJ
        go_wp2_with fail
        go_roundw
        case rel => exact HR.out
        case measure => simp [intOf]; omega
    · by_cases hil : i < len
      · have q1 : decide ((i : Int) < (len : Int)) = true := decide_eq_true (by omega)
        have q2 : decide ((i : Int) < 40) = false := decide_eq_false (by omega)
        go_wp2_with fail
        refine (same_r HJ.out.1).mono ?_
        rintro e w4 ⟨rfl, hb4⟩
        have HK : Hid (Pr w w4 g y G2 C2 qs2 os2 100 ∧ Below w.heap.size w w4) := ⟨HJ.out.2.1.below hb4, HJ.out.1.hl.bel.trans (hb4.mono HJ.out.1.hl.bel.size)⟩
        clear hb4 HJ
        go_wp2_with fail
        refine (same_r HK.out.1).mono ?_
        rintro e w5 ⟨rfl, hb5⟩
        have HE : Hid (Below w.heap.size w w5) := HK.out.2.trans (hb5.mono HK.out.2.size)
        clear hb5 HK
        go_wp2_with fail
        go_ret
        exact ⟨rfl, HE.out⟩
      · have q1 : decide ((i : Int) < (len : Int)) = false := decide_eq_false (by omega)
        go_wp2_with fail
        refine (same_r HJ.out.1).mono ?_
        rintro e w4 ⟨rfl, hb4⟩
        have HK : Hid (Pr w w4 g y G2 C2 qs2 os2 100 ∧ Below w.heap.size w w4) := ⟨HJ.out.2.1.below hb4, HJ.out.1.hl.bel.trans (hb4.mono HJ.out.1.hl.bel.size)⟩
        clear hb4 HJ
        go_wp2_with fail
        refine (same_r HK.out.1).mono ?_
        rintro e w5 ⟨rfl, hb5⟩
        have HE : Hid (Below w.heap.size w w5) := HK.out.2.trans (hb5.mono HK.out.2.size)
        clear hb5 HK
        go_wp2_with fail
        go_ret
        exact ⟨rfl, HE.out⟩
end Go.Proofs.Ytogpmpnojlepoaa
