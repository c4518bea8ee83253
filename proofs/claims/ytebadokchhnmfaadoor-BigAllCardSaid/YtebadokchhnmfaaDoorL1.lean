/- Contracts of the functions over limbs that only read: used, window, less. -/
import Derived.Test.YtebadokchhnmfaaDoorA
import Derived.BigQuiet
import Derived.Deep.QuietTactic
import Derived.WalkSpells
namespace Go.Proofs.YtebadokchhnmfaaDoor
open Go.RowKit Go.BigM
set_option linter.unusedVariables false

theorem used_any (g off : Nat) (L : List Nat) (hL : L.length = 46) (w : World)
    (hc : ∀ j, j < 46 → w.cell? ⟨g, off + j, none⟩ = some (.int .u32 (lg L j : Nat))) :
    Calls Tryd.prog 51 #[.pointer (some ⟨g, off, none⟩)] w fun e w' => e = .returned (.int .i64 (usedOf L)) ∧ w = w' := by
  have HC := Lib.hid hc
  have HL := Lib.hid hL
  clear hc hL
  go_enter Tryd.func51, Tryd.ntmps51
  go_wp2
  go_loop [3] (fun n => ∃ k : Nat, k ≤ 46 ∧ n = .int .i64 k ∧ Hid (∀ j, k ≤ j → lg L j = 0)) (fun n => (intOf n).toNat)
  case atStart => exact ⟨46, by omega, rfl, fun j hj => by unfold lg; rw [List.getD_eq_getElem?_getD, List.getElem?_eq_none (by rw [HL.out]; omega)]; rfl⟩
  case round =>
    obtain ⟨k, hk, rfl, hz⟩ := hrel
    cases k with
    | zero =>
      have HR := Lib.hid (usedOf_is L 0 (Nat.zero_le _) hz.out (Or.inl rfl))
      clear hz
      go_wp2
      go_ret
      exact ⟨ret_int (by rw [HR.out]; rfl), rfl⟩
    | succ m =>
      have hcell := HC.out m (by omega)
      by_cases h0 : lg L m = 0
      · have hz' : Hid (∀ j, m ≤ j → lg L j = 0) := by
          intro j hj
          by_cases e : j = m
          · rw [e]; exact h0
          · exact hz.out j (by omega)
        rw [h0] at hcell
        clear hz h0
        go_wp2
        go_round
        case rel => exact ⟨m, by omega, by go_num, hz'⟩
        case measure => simp [intOf]
      · have HR := Lib.hid (usedOf_is L (m + 1) (by rw [HL.out]; exact hk) hz.out (Or.inr h0))
        have q : (((lg L m : Nat) : Int) == 0) = false := beq_eq_false_iff_ne.2 (by omega)
        clear hz h0
        go_wp2
        go_ret
        exact ⟨ret_int (by rw [HR.out]; omega), rfl⟩

theorem run_window (P : Program) (t : TypeId) (ht : P.underlying t = some (.array (P.arrayLen t) (P.elem t))) (hz : ∀ w, (sizeOf (P.elem t)).run P w = .ok 1 w)
    (g off a b : Nat) (ha : a ≤ b) (hb : b ≤ P.arrayLen t) (h0 : a = 0 ∨ a < b) (w : World) :
    (Instr.sliceAt t (.pointer (some ⟨g, off, none⟩)) (some (.int .i64 a)) (some (.int .i64 b)) (some (.int .i64 b))).run P w = .ok (.slice (some ⟨g, off + a, none⟩) (b - a) (b - a)) w := by
  have hadd : (⟨g, off, none⟩ : Addr).add a = ⟨g, off + a, none⟩ := by unfold Addr.add; split <;> simp_all
  have hif : (if b = a then (⟨g, off, none⟩ : Addr) else (⟨g, off, none⟩ : Addr).add a) = ⟨g, off + a, none⟩ := by
    split
    · have : a = 0 := by omega
      subst this; rfl
    · exact hadd
  simp [Instr.sliceAt, Instr.sureAddr, run_underlying ht, Instr.sliceBounds, run_sliceBound, hz, ha, hb, hif]

theorem window_any (g off a b : Nat) (ha : a ≤ b) (hb : b ≤ 46) (h0 : a = 0 ∨ a < b) (w : World) :
    Calls Tryd.prog 50 #[.pointer (some ⟨g, off, none⟩), .int .i64 a, .int .i64 b] w fun e w' => e = .returned (.slice (some ⟨g, off + a, none⟩) (b - a) (b - a)) ∧ w = w' := by
  have hr := run_window Tryd.prog 47 (by kernel_rfl) (fun w => by kernel_rfl) g off a b ha (by rw [show Tryd.prog.arrayLen 47 = 46 by kernel_rfl]; exact hb) h0
  clear h0
  go_enter Tryd.func50, Tryd.ntmps50
  go_wp2
  go_ret
  exact ⟨rfl, rfl⟩

theorem window_z (g off b : Nat) (x : Int) (hx : x = (b : Int)) (hb : b ≤ 46) (w : World) :
    Calls Tryd.prog 50 #[.pointer (some ⟨g, off, none⟩), .int .i64 0, .int .i64 x] w fun e w' => e = .returned (.slice (some ⟨g, off, none⟩) b b) ∧ w = w' := by
  subst hx
  exact window_any g off 0 b (Nat.zero_le _) hb (Or.inl rfl) w

theorem less_any (g1 o1 c1 g2 o2 c2 n : Nat) (A C : List Nat) (hn : n ≤ 46) (hA : A.length = n) (hC : C.length = n) (sA : Small A) (sC : Small C) (w : World)
    (h1 : ∀ j, j < n → w.cell? ⟨g1, o1 + j, none⟩ = some (.int .u32 (lg A j : Nat)))
    (h2 : ∀ j, j < n → w.cell? ⟨g2, o2 + j, none⟩ = some (.int .u32 (lg C j : Nat))) :
    Calls Tryd.prog 45 #[.slice (some ⟨g1, o1, none⟩) n c1, .slice (some ⟨g2, o2, none⟩) n c2] w fun e w' => e = .returned (.bool (decide (lval A < lval C))) ∧ ∃ m, w' = w.drewN m := by
  have H1 := Lib.hid h1
  have H2 := Lib.hid h2
  have HA := Lib.hid hA
  have HC := Lib.hid hC
  clear h1 h2 hA hC
  go_enter Tryd.func45, Tryd.ntmps45
  go_wp2
  go_loopw [5] (fun i wr => ∃ k m : Nat, k ≤ n ∧ i = .int .i64 ((k : Int) - 1) ∧ Hid (A.drop k = C.drop k) ∧ wr = w.drewN m) (fun i _ => (intOf i + 1).toNat)
  case atStart => exact ⟨n, 0, Nat.le_refl _, rfl, (by show A.drop n = C.drop n; rw [List.drop_of_length_le (by rw [HA.out]; exact Nat.le_refl _), List.drop_of_length_le (by rw [HC.out]; exact Nat.le_refl _)]), rfl⟩
  case round =>
    obtain ⟨k, m, hk, rfl, hz, rfl⟩ := hrel
    cases k with
    | zero =>
      have e0 : lval A = lval C := by have := hz.out; simp at this; rw [this]
      have e1 : decide (lval A < lval C) = false := by rw [e0]; simp
      have HE := Lib.hid e1
      clear e0 e1 hz
      go_wp2
      go_ret
      exact ⟨by rw [HE.out]; rfl, m, rfl⟩
    | succ k =>
      have hc1 := H1.out k (by omega)
      have hc2 := H2.out k (by omega)
      rcases Nat.lt_trichotomy (lg A k) (lg C k) with hlt | heq | hgt
      · have e1 : decide (lval A < lval C) = true := decide_eq_true (lval_lt_of_top A C k (by rw [HA.out]; omega) (by rw [HC.out]; omega) sA hz.out hlt)
        have HE := Lib.hid e1
        have q1 : (((lg A k : Nat) : Int) != (lg C k : Nat)) = true := by simp; omega
        have q2 : decide ((lg A k : Nat) < lg C k) = true := by simpa using hlt
        clear e1 hz hlt
        go_wp2
        go_quiet (fail)
        go_wp2
        go_quiet (fail)
        go_wp2
        go_ret
        exact ⟨by rw [HE.out]; rfl, _, by rw [World.drewN_drewN, World.drewN_drewN]⟩
      · have hz' : Hid (A.drop k = C.drop k) := drop_step A C k (by rw [HA.out]; omega) (by rw [HC.out]; omega) hz.out heq
        rw [heq] at hc1
        clear hz heq
        go_wp2
        go_quiet (fail)
        go_wp2
        go_roundw
        case rel => exact ⟨k, _, by omega, by go_num, hz', rfl⟩
        case measure => simp [intOf]
      · have e1 : decide (lval A < lval C) = false := by
          have := lval_lt_of_top C A k (by rw [HC.out]; omega) (by rw [HA.out]; omega) sC hz.out.symm hgt
          simp; omega
        have HE := Lib.hid e1
        have q1 : (((lg A k : Nat) : Int) != (lg C k : Nat)) = true := by simp; omega
        have q2 : decide ((lg A k : Nat) < lg C k) = false := by simp; omega
        clear e1 hz hgt
        go_wp2
        go_quiet (fail)
        go_wp2
        go_quiet (fail)
        go_wp2
        go_ret
        exact ⟨by rw [HE.out]; rfl, _, by rw [World.drewN_drewN, World.drewN_drewN]⟩
end Go.Proofs.YtebadokchhnmfaaDoor
