/- What addTimes makes of a row of a product. -/
import Derived.Test.YtebadokchhnmfaaDoorW1
namespace Go.Proofs.YtebadokchhnmfaaDoor
open Go.RowKit Go.BigM
set_option linter.unusedVariables false

theorem core1 (b A q m V : Nat) (hA : A < V) (hm : m < V) (hq : q < b) : A + q * m < V * b := by
  have h1 : q * m ≤ q * V := Nat.mul_le_mul_left _ (Nat.le_of_lt hm)
  have h2 : (q + 1) * V ≤ b * V := Nat.mul_le_mul_right _ hq
  rw [Nat.add_mul, Nat.one_mul] at h2
  rw [Nat.mul_comm V b]
  omega
theorem core2 (R c A T : Nat) (h : R + T * c = A) (hlt : A < T) : c = 0 := by
  by_cases hc0 : c = 0
  · exact hc0
  · have : T * 1 ≤ T * c := Nat.mul_le_mul_left _ (by omega)
    omega
theorem core3 (P D I q m R Z T : Nat) (h : R = D + q * m) (hZ : Z = 0) : P + I * R + T * Z = P + I * D + I * q * m := by
  subst h hZ
  rw [Nat.mul_add, Nat.mul_assoc]; omega

theorem AddInv.prod {w w' : World} {g i v q : Nat} {S M : List Nat} {cv : Value} (h : AddInv w g i (v + 1) (v + 1) S (M.take v) q cv (.int .i64 ((v + 1 : Nat) : Int)) w') (hS : S.length = 46) (hiv : i + (v + 1) ≤ 46) (hq : q < B)
    (sS : Small S) (sM : Small M) (hv : usedOf M ≤ v) (hlt : lval S < B ^ (i + v)) :
    ∃ S', w' = w.setRow g (U S') ∧ S'.length = 46 ∧ Small S' ∧ lval S' = lval S + B ^ i * q * lval M := by
  obtain ⟨n, c, R, hi, e1, e2, hR, sR, hc, hval, hw⟩ := h
  obtain rfl : n = v + 1 := by injection e1 with _ e1; omega
  have hsp := lval_split S i
  rw [Nat.min_eq_left (by omega)] at hsp
  have hA : lval (S.drop i) < B ^ v := by
    have h1 : B ^ i * lval (S.drop i) < B ^ i * B ^ v := by
      rw [← Nat.pow_add]; exact Nat.lt_of_le_of_lt (by rw [hsp]; exact Nat.le_add_left _ _) hlt
    exact Nat.lt_of_mul_lt_mul_left h1
  have hu := used_of_lt (S.drop i) v hA
  rw [lval_take_used _ _ (Nat.le_succ_of_le hu), List.take_take, Nat.min_eq_right (Nat.le_succ v), lval_take_used M _ hv] at hval
  have hM := lval_lt_used M v hv sM
  have hT := core1 B _ q _ _ hA hM hq
  rw [← Nat.pow_succ] at hT
  have hc0 := core2 _ _ _ _ hval hT
  rw [hc0, Nat.mul_zero, Nat.add_zero] at hval
  have hdz : lval (S.drop (i + (v + 1))) = 0 := by
    rw [← List.drop_drop]; exact lval_drop_used _ _ (Nat.le_succ_of_le hu)
  refine ⟨_, hw, ?_, ?_, ?_⟩
  · simp [hR, hS]; omega
  · exact ((sS.take _).append sR).append (sS.drop _)
  · have hti : (S.take i).length = i := by rw [List.length_take]; omega
    rw [lval_append, lval_append, hti, hsp]
    exact core3 _ _ _ _ _ _ _ _ hval hdz

end Go.Proofs.YtebadokchhnmfaaDoor
