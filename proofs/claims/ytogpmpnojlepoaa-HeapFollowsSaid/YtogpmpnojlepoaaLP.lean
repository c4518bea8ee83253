/- HeapPlays, walked. -/
import Derived.Test.YtogpmpnojlepoaaL10
import Derived.Test.YtogpmpnojlepoaaL8
namespace Go.Proofs.Ytogpmpnojlepoaa
open Go Go.RowKit
set_option linter.unusedVariables false
set_option linter.unusedSimpArgs false
def PlInv (B : World) (b x m lim : Nat) (iv : Value) (wr : World) : Prop := ∃ (i : Nat) (G : Option Nat) (C : Nat → Nat) (qs : List Nat) (os : List Ob), i ≤ lim ∧ iv = .int .i64 (i : Int) ∧ Pr B wr b x G C qs os m
theorem RetPr.out {v : Value} {B : World} {b x m : Nat} {G : Option Nat} {C : Nat → Nat} {w : World} {e : Ending} {w' : World} (h : RetPr v B b x m G C w e w') : e = .returned v ∧ ∃ G' C' qs' os', Pr B w' b x G' C' qs' os' m := by
  obtain ⟨he, G', C', qs', os', h1, -, -⟩ := h
  exact ⟨he, G', C', qs', os', h1⟩
set_option maxHeartbeats 16000000 in
set_option maxRecDepth 100000 in
theorem plays_walk (n : Int) (a : Option Addr) (len cap : Nat) (zs : List Int) (raw : Int) (w : World) (hn : I64 n) (hA : IsRow .i64 w a len cap zs) (hr : I64 raw) : Calls Try.prog 3 #[.int .i64 n, .slice a len cap, .int .i64 raw] w (RetV (.bool true) w) := by
  have HA := Lib.hid hA.arg
  have hlen := hA.arg.1
  have HRW := Lib.hid hr
  clear hA hr
  go_enter Try.func3, Try.ntmps3
  go_wp2_with fail
  refine (known_any w).mono ?_
  rintro e wk ⟨rfl, hbk⟩
  have HBK := Lib.hid hbk
  clear hbk
  go_wp2_with fail
  obtain ⟨k, hk, -, F⟩ := within_at n 250 hn (by omega) (by omega) wk
  have FW := Lib.hid F
  clear F hn
  refine FW.out.mono ?_
  rintro e w0 ⟨rfl, rfl⟩
  clear FW
  go_wp2_with fail
  refine (new_any (k : Int) (by omega) (by omega) wk).mono ?_
  rintro e w1 ⟨rfl, hw1⟩
  have HW1 := Lib.hid hw1
  clear hw1
  obtain ⟨b, hb⟩ : ∃ b, b = wk.heap.size := ⟨_, rfl⟩
  rw [← hb]
  have HB0 := Lib.hid hb
  clear hb
  go_wp2_with fail
  refine (new_r (k : Int) w1).mono ?_
  rintro e w2 ⟨rfl, hw2⟩
  have HN : Hid (∃ C, Pr w w2 b w1.heap.size none C [] [] k) := by
    obtain ⟨C, h, -, -⟩ := Pr.new HBK.out k (by omega) HW1.out hw2
    rw [← HB0.out] at h
    exact ⟨C, h⟩
  clear hw2 HW1 HB0 HBK
  obtain ⟨x, hx⟩ : ∃ x, x = w1.heap.size := ⟨_, rfl⟩
  rw [← hx] at HN ⊢
  clear hx
  obtain ⟨C, hp⟩ := HN.out
  have H0 : Hid (PlInv w b x k 80 (.int .i64 0) w2) := ⟨0, none, C, [], [], Nat.zero_le _, rfl, hp⟩
  clear hp HN
  go_wp2_with fail
  go_loopw [10] (fun iv wr => PlInv w b x k 80 iv wr) (fun iv _ => 80 - (intOf iv).toNat)
  case atStart => exact H0.out
  case round =>
    clear H0
    obtain ⟨i, G, C, qs, os, hi, rfl, hp⟩ := hrel
    have HP := Lib.hid hp
    clear hp
    by_cases hgo : i < len ∧ i < 80
    · obtain ⟨hil, hi80⟩ := hgo
      have q1 : decide ((i : Int) < (len : Int)) = true := decide_eq_true (by omega)
      have q2 : decide ((i : Int) < 80) = true := decide_eq_true (by omega)
      obtain ⟨y, z, rfl, hc, hz⟩ := (HA.out.below HP.out.hl.bel).2 i hil
      have F16 := Lib.hid (step_r HP.out z raw hz HRW.out)
      clear hz
      go_wp2_with fail
      refine F16.out.mono ?_
      rintro e w4 h4
      obtain ⟨rfl, G4, C4, qs4, os4, h5⟩ := h4.out
      have H5 := Lib.hid h5
      clear h4 h5 F16 HP
      go_wp2_with fail
      refine (same_r H5.out).mono ?_
      rintro e w5 ⟨rfl, hb5⟩
      have HR : Hid (PlInv w b x k 80 (.int .i64 ((i : Int) + 1)) w5) := ⟨i + 1, G4, C4, qs4, os4, by omega, by go_num, H5.out.below hb5⟩
      clear hb5 H5
      go_wp2_with fail
      go_roundw
      case rel => exact HR.out
      case measure => simp [intOf]; omega
    · have F18 := Lib.hid (tagm_any HP.out.hl.hp raw HRW.out.1 HRW.out.2)
      have F19 := Lib.hid (fun W (hb : Below wr.heap.size wr W) => rtag_r (HP.out.below hb).rh raw)
      have F20 := Lib.hid (fun W (hb : Below wr.heap.size wr W) => follow_o (HP.out.below hb).hl.hp raw HRW.out.1 HRW.out.2)
      have F21 := Lib.hid (fun W (hb : Below wr.heap.size wr W) => rfollow_r (HP.out.below hb).rh raw)
      have HE : Hid (Below w.heap.size w wr) := HP.out.hl.bel
      clear HP
      generalize (hdo os raw).t = t at F18 F19
      generalize folOf os raw = fo at F20 F21
      by_cases hil : i < len
      · have q1 : decide ((i : Int) < (len : Int)) = true := decide_eq_true (by omega)
        have q2 : decide ((i : Int) < 80) = false := decide_eq_false (by omega)
        go_wp2_with fail
        refine F18.out.mono ?_
        rintro e w4 ⟨rfl, hb4⟩
        have B4 := Lib.hid hb4
        clear hb4 F18
        go_wp2_with fail
        refine (F19.out w4 B4.out).mono ?_
        rintro e w5 ⟨rfl, hb5⟩
        have B5 := Lib.hid (B4.out.trans (hb5.mono B4.out.size))
        clear hb5 F19 B4
        go_wp2_with fail
        refine (F20.out w5 B5.out).mono ?_
        rintro e w6 ⟨rfl, hb6⟩
        have B6 := Lib.hid (B5.out.trans (hb6.mono B5.out.size))
        clear hb6 F20 B5
        go_wp2_with fail
        refine (F21.out w6 B6.out).mono ?_
        rintro e w7 ⟨rfl, hb7⟩
        have B7 := Lib.hid (B6.out.trans (hb7.mono B6.out.size))
        clear hb7 F21 B6
        go_wp2_with fail
        go_ret
        exact ⟨rfl, HE.out.trans (B7.out.mono HE.out.size)⟩
      · have q1 : decide ((i : Int) < (len : Int)) = false := decide_eq_false (by omega)
        go_wp2_with fail
        refine F18.out.mono ?_
        rintro e w4 ⟨rfl, hb4⟩
        have B4 := Lib.hid hb4
        clear hb4 F18
        go_wp2_with fail
        refine (F19.out w4 B4.out).mono ?_
        rintro e w5 ⟨rfl, hb5⟩
        have B5 := Lib.hid (B4.out.trans (hb5.mono B4.out.size))
        clear hb5 F19 B4
        go_wp2_with fail
        refine (F20.out w5 B5.out).mono ?_
        rintro e w6 ⟨rfl, hb6⟩
        have B6 := Lib.hid (B5.out.trans (hb6.mono B5.out.size))
        clear hb6 F20 B5
        go_wp2_with fail
        refine (F21.out w6 B6.out).mono ?_
        rintro e w7 ⟨rfl, hb7⟩
        have B7 := Lib.hid (B6.out.trans (hb7.mono B6.out.size))
        clear hb7 F21 B6
        go_wp2_with fail
        go_ret
        exact ⟨rfl, HE.out.trans (B7.out.mono HE.out.size)⟩
end Go.Proofs.Ytogpmpnojlepoaa
