/- The document's Follow. -/
import Derived.Test.YtjecjlnkpbbanaaR7
namespace Go.Proofs.Ytjecjlnkpbbanaa
open Go Go.RowKit
set_option linter.unusedVariables false
set_option linter.unusedSimpArgs false
def RfInv (qs : List Nat) (os : List Ob) (a : Int) (ov iv : Value) : Prop :=
  ∃ (i : Nat) (c : Int), iv = .int .i64 (i : Int) ∧ ov = fptr qs os c ∧ ((i ≤ os.length ∧ folOf os a = fol os (os.length - i) c) ∨ (i = os.length + 1 ∧ folOf os a = -1))
theorem fol_none {os : List Ob} {n : Nat} {c : Int} (h : ob os c = none) : fol os n c = -1 := by unfold fol; rw [h]
theorem fol_here {os : List Ob} {n : Nat} {c : Int} {o : Ob} (h : ob os c = some o) (ht : o.tag ≠ 5) : fol os n c = c := by unfold fol; rw [h]; simp [ht]
theorem fol_next {os : List Ob} {n : Nat} {c : Int} {o : Ob} (h : ob os c = some o) (ht : o.tag = 5) : fol os (n + 1) c = fol os n (o.body.headD 0) := by
  conv => lhs; unfold fol
  rw [h]; simp [ht]
theorem fol_out {os : List Ob} {c : Int} {o : Ob} (h : ob os c = some o) (ht : o.tag = 5) : fol os 0 c = -1 := by unfold fol; rw [h]; simp [ht]
set_option maxHeartbeats 16000000 in
set_option maxRecDepth 100000 in
theorem rfollow_r {w : World} {x : Nat} {C : Nat → Nat} {qs : List Nat} {os : List Ob} {m : Nat} (h : Rh w x C qs os m) (a : Int) : Calls Try.prog 43 #[.pointer (some ⟨x, 0, none⟩), .int .i64 a] w (RetV (.int .i64 (folOf os a)) w) := by
  have F42 := Lib.hid (find_r h a)
  have FN := Lib.hid (fun c => find_r h c)
  obtain ⟨la, lc, -, -, c2, hcap, -, -, hr⟩ := h.cells
  have HH := Lib.hid h
  have hlen := h.len
  have hol := total_len os
  have hm := h.most
  have hrm := h.room
  clear h hr
  have H0 : Hid (RfInv qs os a (fptr qs os a) (.int .i64 0)) := ⟨0, a, rfl, rfl, .inl ⟨Nat.zero_le _, rfl⟩⟩
  obtain ⟨n, hn⟩ : ∃ n, n = os.length := ⟨_, rfl⟩
  have hn9 : n ≤ 1000000 := by omega
  rw [← hn] at c2 hcap
  have HN := Lib.hid hn
  clear hn hlen hol hm hrm
  go_enter Try.func43, Try.ntmps43
  go_wp2_with fail
  refine F42.out.mono ?_
  rintro e w1 ⟨rfl, rfl⟩
  clear F42
  go_wp2_with fail
  go_loop [5, 6] (fun ov iv => RfInv qs os a ov iv) (fun _ iv => n + 2 - (intOf iv).toNat)
  case atStart => exact H0.out
  case round =>
    clear H0
    obtain ⟨i, c, rfl, rfl, hi⟩ := hrel
    rw [← HN.out] at hi
    rcases hi with ⟨hi, hf⟩ | ⟨rfl, hf⟩
    · have q1 : decide ((i : Int) ≤ (n : Int)) = true := decide_eq_true (by omega)
      have HF := Lib.hid hf
      clear hf
      rcases HH.out.at c with ⟨-, h2, h3⟩ | ⟨k, q, o, -, hkl, -, -, hck, h2, h3, h4⟩
      · rw [h2]
        have HR : Hid (folOf os a = -1) := by show _ = _; rw [HF.out]; exact fol_none h3
        clear h2 h3
        go_wp2_with fail
        go_ret
        exact ⟨by rw [HR.out]; rfl, Below.refl _ _⟩
      · rw [h2]
        obtain ⟨pa, pc, na, nc, d0, d1, d2, -, o1, -⟩ := h4.cells
        have hok := HH.out.oks o (ob_mem h3)
        by_cases h5 : o.tag = 5
        · have hq5 : ((o.tag : Int) != 5) = false := by rw [h5]; rfl
          have hpl : o.ptrs.length = 1 := by
            have := hok.pn
            have := hok.ind h5
            rw [Ob.ptrs, List.length_take]; omega
          have hp0 : o.ptrs = [o.body.headD 0] := by
            have h9 := hok.ind h5
            have h8 := hok.b1
            unfold Ob.ptrs
            rw [h9]
            cases hb : o.body with
            | nil => rw [hb] at h8; simp at h8
            | cons y l => simp
          have hs := own_isS o1
          rw [hpl] at d2
          obtain ⟨ao', cap', e1, _, hrr⟩ := hs
          injection e1 with e1 e2 e3
          rcases hrr with ⟨_, e⟩ | ⟨g, oo, e4, hc0⟩
          · rw [hp0] at e; simp at e
          · rw [← e1] at e4
            subst e4
            have cc := hc0 0 (by omega)
            rw [Nat.add_zero] at cc
            obtain ⟨v, hv⟩ : ∃ v, v = o.body.headD 0 := ⟨_, rfl⟩
            have hv0 : o.ptrs[0]'(by omega) = v := by simp only [hp0]; exact hv.symm
            rw [hv0] at cc
            have HREL : Hid (RfInv qs os a (fptr qs os v) (.int .i64 ((i : Int) + 1))) := by
              refine ⟨i + 1, v, by go_num, rfl, ?_⟩
              by_cases hin : i < os.length
              · refine .inl ⟨by omega, ?_⟩
                rw [HF.out, HN.out, show os.length - i = (os.length - (i + 1)) + 1 by omega, fol_next h3 h5, hv]
              · have : i = os.length := by rw [HN.out] at hi; omega
                refine .inr ⟨by omega, ?_⟩
                rw [HF.out, HN.out, this, Nat.sub_self, fol_out h3 h5]
            have F := Lib.hid (FN.out v)
            generalize o.tag = tg at d1 hq5
            clear h2 h3 h4 o1 hok h5 hpl hp0 e1 e2 e3 hc0 hv hv0 hck d0
            go_wp2_with fail
            refine F.out.mono ?_
            rintro e w2 ⟨rfl, rfl⟩
            clear F
            go_wp2_with fail
            go_round
            case rel => exact HREL.out
            case measure => simp [intOf]; omega
        · have hq5 : ((o.tag : Int) != 5) = true := by simp; omega
          have HR : Hid (folOf os a = (adr os k : Nat)) := by show _ = _; rw [HF.out, fol_here h3 h5, hck]
          obtain ⟨ad, had⟩ : ∃ ad, ad = adr os k := ⟨_, rfl⟩
          rw [← had] at d0 HR
          generalize o.tag = tg at d1 hq5
          clear h2 h3 h4 o1 hok h5 hck had d2
          go_wp2_with fail
          go_ret
          exact ⟨by rw [HR.out]; rfl, Below.refl _ _⟩
    · have q1 : decide (((n : Int) + 1) ≤ (n : Int)) = false := decide_eq_false (by omega)
      have q2 : decide ((((n + 1 : Nat)) : Int) ≤ (n : Int)) = false := decide_eq_false (by omega)
      have HR := Lib.hid hf
      clear hf
      generalize fptr qs os c = fv
      go_wp2_with fail
      go_ret
      exact ⟨by rw [HR.out]; rfl, Below.refl _ _⟩
end Go.Proofs.Ytjecjlnkpbbanaa
