/- Plain mathematics: how often one number goes into another one, guessed from the highest limbs. Nothing of the program is named here. -/
import Derived.Test.YtebadokchhnmfaaDoorM1
namespace Go.BigM
set_option linter.unusedVariables false

/-- Two limbs as one number. -/
theorem two_top (P d1 d0 T b : Nat) : P + T * d0 + T * b * d1 = P + T * (d1 * b + d0) := by
  rw [Nat.mul_add, Nat.mul_comm d1 b, ← Nat.mul_assoc]; omega
theorem guess_core (T b x y k V P : Nat) (hk : k * y ≤ x * b) (hV : V ≤ T * y) (hP : T * b * x ≤ P) : k * V ≤ P := by
  have h1 : k * V ≤ k * (T * y) := Nat.mul_le_mul_left _ hV
  have h2 : k * (T * y) = T * (k * y) := by rw [← Nat.mul_assoc, Nat.mul_comm k T, Nat.mul_assoc]
  have h3 : T * (k * y) ≤ T * (x * b) := Nat.mul_le_mul_left _ hk
  have h4 : T * (x * b) = T * b * x := by rw [Nat.mul_comm x b, Nat.mul_assoc]
  omega
theorem top_two (D : List Nat) (n : Nat) (hD : D.length = n + 2) : lval D = lval (D.take n) + B ^ n * (lg D (n + 1) * B + lg D n) := by
  have e1 := lval_take_lg D (n + 1)
  rw [List.take_of_length_le (by omega), lval_take_lg D n, Nat.pow_succ, two_top] at e1
  exact e1
/-- The highest two limbs of each tell no more than goes. -/
theorem guess_small (D V : List Nat) (n : Nat) (hD : D.length = n + 3) (hV : V.length = n + 2) (sV : Small V) (k : Nat)
    (hk : k * (lg V (n + 1) * B + lg V n + 1) ≤ (lg D (n + 2) * B + lg D (n + 1)) * B) : k * lval V ≤ lval D := by
  have e1 : lval D = lval (D.take (n + 1)) + B ^ (n + 1) * (lg D (n + 2) * B + lg D (n + 1)) := top_two D (n + 1) hD
  have e2 := top_two V n hV
  have b2 := lval_lt (V.take n) (sV.take n)
  rw [List.length_take, Nat.min_eq_left (by omega)] at b2
  refine guess_core (B ^ n) B _ _ k _ _ hk ?_ ?_
  · rw [e2, Nat.mul_succ]; omega
  · rw [e1, Nat.pow_succ]; omega
theorem guess_div (D V : List Nat) (n : Nat) (hD : D.length = n + 3) (hV : V.length = n + 2) (sV : Small V) :
    (lg D (n + 2) * B + lg D (n + 1)) * B / (lg V (n + 1) * B + lg V n + 1) * lval V ≤ lval D :=
  guess_small D V n hD hV sV _ (Nat.div_mul_le_self _ _)
/-- A part whose highest limb is none is what stands below it. -/
theorem low_part (D : List Nat) (n : Nat) (hD : D.length = n + 1) (h0 : lg D n = 0) : lval (D.take n) = lval D := by
  have e1 := lval_take_lg D n
  rw [List.take_of_length_le (by omega), h0] at e1
  omega
/-- One whose highest limb is some is more than anything of fewer limbs. -/
theorem high_part (D V : List Nat) (n : Nat) (hD : D.length = n + 1) (hV : V.length = n) (sV : Small V) (h0 : lg D n ≠ 0) : lval V ≤ lval D := by
  have e1 := lval_take_lg D n
  rw [List.take_of_length_le (by omega)] at e1
  have b := lval_lt V sV
  rw [hV] at b
  have : B ^ n * 1 ≤ B ^ n * lg D n := Nat.mul_le_mul_left _ (by omega)
  omega
theorem two_is (D : List Nat) (hD : D.length = 2) : lval D = lg D 1 * B + lg D 0 := by
  have := top_two D 0 hD
  simpa [lval] using this
theorem one_is (V : List Nat) (hV : V.length = 1) : lval V = lg V 0 := by
  have := lval_take_lg V 0
  rw [List.take_of_length_le (by omega)] at this
  simpa [lval] using this
/-- How often, step by step. -/
theorem often_lt (o k V P0 P' b : Nat) (h : o * V + P' = P0) (hlt : P0 < b * V) (hk : k * V ≤ P') : o + k < b := by
  have h1 : (o + k) * V ≤ P0 := by rw [Nat.add_mul]; omega
  exact Nat.lt_of_mul_lt_mul_right (Nat.lt_of_le_of_lt h1 hlt)
theorem often_next (o k V P0 P' P'' : Nat) (h : o * V + P' = P0) (hk : P'' + k * V = P') : (o + k) * V + P'' = P0 := by
  rw [Nat.add_mul]; omega
theorem often_end (o V P0 P' : Nat) (h : o * V + P' = P0) (hlt : P' < V) : o = P0 / V ∧ P' = P0 % V := by
  subst h
  have hV : 0 < V := by omega
  rw [Nat.mul_comm, Nat.mul_add_div hV, Nat.div_eq_of_lt hlt, Nat.mul_add_mod, Nat.mod_eq_of_lt hlt]
  exact ⟨by omega, rfl⟩
theorem often_less (k V P' P'' : Nat) (hk : P'' + k * V = P') (h1 : 1 ≤ k) (hV : 0 < V) : P'' < P' := by
  have : 1 * V ≤ k * V := Nat.mul_le_mul_right _ h1
  omega
theorem once (k V P' : Nat) (hk : k * V ≤ P') (hle : V ≤ P') : (max 1 k) * V ≤ P' := by
  rcases Nat.le_total 1 k with h | h
  · rw [Nat.max_eq_right h]; exact hk
  · rw [Nat.max_eq_left h]; omega

/-- A row of limbs whose middle is another. -/
theorem mid_take (L R : List Nat) (o n : Nat) (ho : o ≤ L.length) : (L.take o ++ R ++ L.drop n).take o = L.take o := by
  rw [List.append_assoc, List.take_append_of_le_length (by rw [List.length_take]; omega), List.take_take, Nat.min_self]
theorem mid_drop (L R : List Nat) (o n : Nat) (ho : o ≤ L.length) : (L.take o ++ R ++ L.drop n).drop (o + R.length) = L.drop n := by
  rw [List.drop_append_of_le_length (by simp; omega)]
  rw [List.drop_of_length_le (by simp; omega)]; rfl
theorem mid_part (L R : List Nat) (o n : Nat) (ho : o ≤ L.length) : ((L.take o ++ R ++ L.drop n).drop o).take R.length = R := by
  rw [List.append_assoc, List.drop_append_of_le_length (by rw [List.length_take]; omega), List.drop_of_length_le (by rw [List.length_take]; omega), List.nil_append, List.take_append_of_le_length (by omega), List.take_of_length_le (by omega)]
theorem mid_len (L R : List Nat) (o : Nat) (ho : o + R.length ≤ L.length) : (L.take o ++ R ++ L.drop (o + R.length)).length = L.length := by
  simp; omega
theorem lg_of_take (l : List Nat) (n j : Nat) (h : j < n) : lg (l.take n) j = lg l j := by
  unfold lg; rw [List.getD_eq_getElem?_getD, List.getD_eq_getElem?_getD, List.getElem?_take_of_lt h]
end Go.BigM
