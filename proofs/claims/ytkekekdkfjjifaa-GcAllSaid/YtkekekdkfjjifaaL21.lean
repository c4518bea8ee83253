/- both, roots. -/
import Derived.Test.YtkekekdkfjjifaaZO
import Derived.Test.YtkekekdkfjjifaaL8
import Derived.Test.YtkekekdkfjjifaaZS
namespace Go.Proofs.Ytkekekdkfjjifaa
open Go Go.RowKit
set_option linter.unusedVariables false
set_option linter.unusedSimpArgs false
theorem within14 (a n : Int) (w : World) (h1 : -9223372036854775808 ≤ a) (h2 : a ≤ 9223372036854775807) (h3 : 1 ≤ n) (h4 : n ≤ 4000000000) :
    Calls Try.prog 14 #[.int .i64 a, .int .i64 n] w fun e w' => e = .returned (.int .i64 (a % n)) ∧ w = w' := by
  have hr := Int.emod_nonneg a (show n ≠ 0 by omega)
  have hl := Int.emod_lt_of_pos a (show 0 < n by omega)
  by_cases h : 0 ≤ a
  · have ht := Int.tmod_eq_emod_of_nonneg (b := n) h
    go_enter Try.func14, Try.ntmps14
    go_wp2
    go_ret
    exact ⟨rfl, rfl⟩
  · by_cases hd : a % n = 0
    · have ht : a.tmod n = 0 := by rw [Int.tmod_eq_emod, if_pos (Or.inr (Int.dvd_of_emod_eq_zero hd))]; omega
      go_enter Try.func14, Try.ntmps14
      go_wp2
      go_ret
      exact ⟨ret_int (by omega), rfl⟩
    · have ht : a.tmod n = a % n - n := by
        rw [Int.tmod_eq_emod, if_neg]
        · omega
        · rintro (h' | h')
          · exact h h'
          · exact hd (Int.emod_eq_zero_of_dvd h')
      have ht2 : a % n - n < 0 := by omega
      clear hd
      go_enter Try.func14, Try.ntmps14
      go_wp2
      go_ret
      exact ⟨ret_int (by omega), rfl⟩
theorem within_at14 (a : Int) (n : Nat) (ha : I64 a) (h1 : 1 ≤ n) (h2 : n ≤ 1000000) (w : World) : ∃ k : Nat, k < n ∧ (k : Int) = a % n ∧ Calls Try.prog 14 #[.int .i64 a, .int .i64 n] w fun e w' => e = .returned (.int .i64 (k : Int)) ∧ w = w' := by
  have h3 := Int.emod_nonneg a (show (n : Int) ≠ 0 by omega)
  have h4 := Int.emod_lt_of_pos a (show (0 : Int) < n by omega)
  obtain ⟨k, hk⟩ : ∃ k : Nat, (k : Int) = a % n := ⟨(a % n).toNat, by omega⟩
  refine ⟨k, by omega, hk, ?_⟩
  have := within14 a n w ha.1 ha.2 (by omega) (by omega)
  rw [← hk] at this
  exact this
theorem Pr.base {B w0 w : World} {b x : Nat} {G : Option Nat} {C : Nat → Nat} {qs : List Nat} {os : List Ob} {m : Nat} (h : Pr w0 w b x G C qs os m) (hb : Below B.heap.size B w0) : Pr B w b x G C qs os m := by
  have hs := hb.size
  have h1 := h.hl.hb
  exact ⟨⟨h.hl.hp, hb.trans (h.hl.bel.mono hs), by omega, fun k hk => by have := h.hl.hg k hk; omega⟩, h.rh, h.cb, h.cg, fun k hk => by have := h.cB k hk; omega⟩
def BoInv (B : World) (b x : Nat) (iv : Value) (wr : World) : Prop := ∃ (i : Nat) (G : Option Nat) (C : Nat → Nat) (qs : List Nat) (os : List Ob), i ≤ 90 ∧ iv = .int .i64 (i : Int) ∧ Pr B wr b x G C qs os 300
theorem RetPr.out {v : Value} {B : World} {b x m : Nat} {G : Option Nat} {C : Nat → Nat} {w : World} {e : Ending} {w' : World} (h : RetPr v B b x m G C w e w') : e = .returned v ∧ ∃ G' C' qs' os', Pr B w' b x G' C' qs' os' m := by
  obtain ⟨he, G', C', qs', os', h1, _⟩ := h
  exact ⟨he, G', C', qs', os', h1⟩
def RetBo (w : World) (e : Ending) (w' : World) : Prop := ∃ b x G C qs os, e = .returned (.tuple #[.pointer (some ⟨b, 0, none⟩), .pointer (some ⟨x, 0, none⟩)]) ∧ Pr w w' b x G C qs os 300
set_option maxHeartbeats 16000000 in
set_option maxRecDepth 100000 in
theorem both_any (a : Option Addr) (len cap : Nat) (w : World) (hA : ArgS w a len) : Calls Try.prog 13 #[.slice a len cap] w (RetBo w) := by
  have HA := Lib.hid hA
  have hlen := hA.1
  clear hA
  go_enter Try.func13, Try.ntmps13
  go_wp2_with fail
  refine (new_any (300 : Nat) (by omega) (by omega) w).mono ?_
  rintro e w1 ⟨rfl, hw1⟩
  have HW1 := Lib.hid hw1
  clear hw1
  obtain ⟨b, hb⟩ : ∃ b, b = w.heap.size := ⟨_, rfl⟩
  rw [← hb]
  have HB0 := Lib.hid hb
  clear hb
  go_wp2_with fail
  refine (new_r (300 : Nat) w1).mono ?_
  rintro e w2 ⟨rfl, hw2⟩
  have HN : Hid (∃ C, Pr w w2 b w1.heap.size none C [] [] 300) := by
    obtain ⟨C, h, -, -⟩ := Pr.new (B := w) (Below.refl _ _) 300 (by omega) HW1.out hw2
    rw [← HB0.out] at h
    exact ⟨C, h⟩
  clear hw2 HW1 HB0
  obtain ⟨x, hx⟩ : ∃ x, x = w1.heap.size := ⟨_, rfl⟩
  rw [← hx] at HN ⊢
  clear hx
  obtain ⟨C, hp⟩ := HN.out
  have H0 : Hid (BoInv w b x (.int .i64 0) w2) := ⟨0, none, C, [], [], Nat.zero_le _, rfl, hp⟩
  clear hp HN
  go_wp2_with fail
  go_loopw [6] (fun iv wr => BoInv w b x iv wr) (fun iv _ => 90 - (intOf iv).toNat)
  case atStart => exact H0.out
  case round =>
    clear H0
    obtain ⟨i, G, C, qs, os, hi, rfl, hp⟩ := hrel
    have HP := Lib.hid hp
    clear hp
    by_cases hgo : i < len ∧ i < 90
    · obtain ⟨hil, hi90⟩ := hgo
      have q1 : decide ((i : Int) < (len : Int)) = true := decide_eq_true (by omega)
      have q2 : decide ((i : Int) < 90) = true := decide_eq_true (by omega)
      obtain ⟨y, z, rfl, hc, hz⟩ := (HA.out.below HP.out.hl.bel).2 i hil
      have F16 := Lib.hid (step_r HP.out z 5 hz (by unfold I64; omega))
      clear hz
      go_wp2_with fail
      refine F16.out.mono ?_
      rintro e w4 h4
      obtain ⟨rfl, G4, C4, qs4, os4, h5⟩ := h4.out
      have HR : Hid (BoInv w b x (.int .i64 ((i : Int) + 1)) w4) := ⟨i + 1, G4, C4, qs4, os4, by omega, by go_num, h5⟩
      clear h4 h5 F16 HP
      go_wp2_with fail
      go_roundw
      case rel => exact HR.out
      case measure => simp [intOf]; omega
    · by_cases hil : i < len
      · have q1 : decide ((i : Int) < (len : Int)) = true := decide_eq_true (by omega)
        have q2 : decide ((i : Int) < 90) = false := decide_eq_false (by omega)
        go_wp2_with fail
        go_ret2
        exact ⟨b, x, G, C, qs, os, rfl, HP.out⟩
      · have q1 : decide ((i : Int) < (len : Int)) = false := decide_eq_false (by omega)
        go_wp2_with fail
        go_ret2
        exact ⟨b, x, G, C, qs, os, rfl, HP.out⟩
def RtInv (os : List Ob) (W : World) (v iv : Value) (wr : World) : Prop := ∃ (i : Nat) (rs : List Int), i ≤ 6 ∧ rs.length = i ∧ iv = .int .i64 (i : Int) ∧ wr.ownsRow W.heap.size 3 1 v i (rs.map (Value.int .i64)) ∧ (∀ r ∈ rs, Vd os r) ∧ Below W.heap.size W wr
def RetRt (os : List Ob) (w : World) (e : Ending) (w' : World) : Prop :=
  ∃ ao cap rs, e = .returned (.slice ao (rs : List Int).length cap) ∧ w'.ownsRow w.heap.size 3 1 (.slice ao rs.length cap) rs.length (rs.map (Value.int .i64)) ∧ rs.length ≤ 6 ∧ (∀ r ∈ rs, Vd os r) ∧ Below w.heap.size w w'
theorem RtInv.fin {os : List Ob} {w W : World} {v : Value} {i : Nat} {rs : List Int} {wr : World} (hb : Below w.heap.size w W) (h1 : i ≤ 6) (h2 : rs.length = i) (h3 : wr.ownsRow W.heap.size 3 1 v i (rs.map (Value.int .i64))) (h4 : ∀ r ∈ rs, Vd os r) (h5 : Below W.heap.size W wr) : RetRt os w (.returned v) wr := by
  subst h2
  obtain ⟨ao, c, rfl⟩ := own_sform h3
  exact ⟨ao, c, rs, rfl, own_less h3 hb.size, h1, h4, hb.trans (h5.mono hb.size)⟩
set_option maxHeartbeats 16000000 in
set_option maxRecDepth 100000 in
theorem roots_any {w : World} {x : Nat} {C : Nat → Nat} {qs : List Nat} {os : List Ob} {m : Nat} (h : Rh w x C qs os m) (a : Option Addr) (len cap : Nat) (hA : ArgS w a len) : Calls Try.prog 15 #[.pointer (some ⟨x, 0, none⟩), .slice a len cap] w (RetRt os w) := by
  have HA := Lib.hid hA
  have hlen := hA.1
  have F32 := Lib.hid (robjects_r h)
  have hol : os.length ≤ 1000000 := by have := h.most; have := h.room; have := total_len os; omega
  clear h hA
  go_enter Try.func15, Try.ntmps15
  go_wp2_with fail
  refine F32.out.mono ?_
  rintro e W hr
  obtain ⟨lo, lc, rfl, hown, hb⟩ := hr.form
  have HL := Lib.hid hown
  have HB := Lib.hid hb
  clear F32 hr hown hb
  rw [adrs_len] at HL ⊢
  obtain ⟨n, hn⟩ : ∃ n, n = os.length := ⟨_, rfl⟩
  rw [← hn] at HL hol ⊢
  have HN := Lib.hid hn
  clear hn
  have H0 : Hid (RtInv os W (.slice none 0 0) (.int .i64 0) W) := ⟨0, [], Nat.zero_le _, rfl, rfl, World.ownsRow_nil _ _ _ _, by simp, Below.refl _ _⟩
  go_wp2_with fail
  go_loopw [6, 7] (fun v iv wr => RtInv os W v iv wr) (fun _ iv _ => 6 - (intOf iv).toNat)
  case atStart => exact H0.out
  case round =>
    clear H0
    obtain ⟨i, rs, hi, hrl, rfl, hown, hvd, hbel⟩ := hrel
    have HO := Lib.hid hown
    have HV := Lib.hid hvd
    have HBL := Lib.hid hbel
    have HRL := Lib.hid hrl
    clear hown hvd hbel hrl
    by_cases hgo : i < len ∧ i < 6 ∧ 0 < n
    · obtain ⟨hil, hi6, hn0⟩ := hgo
      have q1 : decide ((i : Int) < (len : Int)) = true := decide_eq_true (by omega)
      have q2 : decide ((i : Int) < 6) = true := decide_eq_true (by omega)
      have q3 : decide ((0 : Int) < (n : Int)) = true := decide_eq_true (by omega)
      obtain ⟨y, z, rfl, hc, hz⟩ := (HA.out.below (HB.out.trans (HBL.out.mono HB.out.size))).2 i hil
      obtain ⟨k, hk, -, F⟩ := within_at14 z n hz (by omega) (by omega) wr
      have FW := Lib.hid F
      have hl9 := own_below HL.out HBL.out
      obtain ⟨gl, cl, e1, -, -, -, hcl⟩ := own_at hl9 hn0
      injection e1 with e1 e2 e3
      subst e1
      clear e2 e3
      have hka : k < (adrs os).length := by rw [adrs_len, ← HN.out]; exact hk
      have ck := hcl k hka
      rw [adrs_get hka] at ck
      have hko : k < os.length := by rw [← HN.out]; exact hk
      obtain ⟨r, hr⟩ : ∃ r, r = adr os k := ⟨_, rfl⟩
      rw [← hr] at ck
      have HRV : Hid (Vd os (r : Int)) := by rw [hr]; exact ⟨_, ob_loc (loc_adr os k hko)⟩
      have HSR := Lib.hid (srcA_one (d := .int .i64 (r : Int)) (T := 3) (alloc_at wr (.cells #[.int .i64 (r : Int)] 3)) rfl 1)
      have hA9 : Below wr.heap.size wr (wr.alloc (.cells #[.int .i64 (r : Int)] 3)) := (Below.refl _ _).alloc (Nat.le_refl _) _
      have HO2 := Lib.hid (own_below HO.out hA9)
      have HB2 := Lib.hid (HBL.out.trans (hA9.mono HBL.out.size))
      have hsz2 : W.heap.size ≤ (wr.alloc (.cells #[.int .i64 (r : Int)] 3)).heap.size := HB2.out.size
      have hi9 : i + 1 ≤ 1000000000 := by omega
      obtain ⟨RM, hRM⟩ : ∃ RM, RM = rs.map (Value.int .i64) := ⟨_, rfl⟩
      rw [← hRM] at HO2
      have HRM := Lib.hid hRM
      have hVL : Hid (∀ y, u6.ownBlock = some y → W.heap.size ≤ y) := fun y hy => (HO.out.lt y hy).1
      clear F hz hl9 hcl hr hRM hA9
      go_wp2_with fail
      refine FW.out.mono ?_
      rintro e w4 ⟨rfl, rfl⟩
      clear FW
      go_wp2_with (refine wpList_wantedR (by rfl) fun K hK => ?_; refine wp_appI (Operand.tmp 25) (Operand.tmp 36) rfl W.heap.size u6 i RM rfl HO2.out (.slice (some ⟨wr.heap.size, 0, none⟩) 1 1) rfl 1 _ HSR.out hi9 hsz2 ?_; intro v9 w9 hown9 hg9 hv9; have HREL : Hid (RtInv os W v9 (.int .i64 ((i : Int) + 1)) w9) := ⟨i + 1, rs ++ [(r : Int)], hi6, (by rw [List.length_append, HRL.out]; rfl), (by go_num), (by rw [List.map_append, ← HRM.out]; exact hown9), (fun q hq => by rcases List.mem_append.1 hq with h | h; exact HV.out q h; rw [List.mem_singleton.1 h]; exact HRV.out), HB2.out.grown hg9 hsz2 (fun y hy => hVL.out y hy)⟩; clear hown9 hg9 hv9 HO2 HSR; refine hK _ _ ?_; clear hK K)
      go_roundw
      case rel => exact HREL.out
      case measure => simp [intOf]; omega
    · have HF : Hid (RetRt os w (.returned u6) wr) := RtInv.fin HB.out hi HRL.out HO.out HV.out HBL.out
      clear HO
      by_cases hil : i < len
      · have q1 : decide ((i : Int) < (len : Int)) = true := decide_eq_true (by omega)
        by_cases hi6 : i < 6
        · have q2 : decide ((i : Int) < 6) = true := decide_eq_true (by omega)
          have q3 : decide ((0 : Int) < (n : Int)) = false := decide_eq_false (by omega)
          go_wp2_with fail
          go_ret
          exact HF.out
        · have q2 : decide ((i : Int) < 6) = false := decide_eq_false (by omega)
          go_wp2_with fail
          go_ret
          exact HF.out
      · have q1 : decide ((i : Int) < (len : Int)) = false := decide_eq_false (by omega)
        go_wp2_with fail
        go_ret
        exact HF.out
end Go.Proofs.Ytkekekdkfjjifaa
