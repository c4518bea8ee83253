/- The document's product: mathematics. -/
import Derived.Test.YtofhacafekfkgaaDoorRT
namespace Go.Proofs.YtofhacafekfkgaaDoor
open Go.RowKit Go.BigM
set_option linter.unusedVariables false
set_option linter.unusedSimpArgs false
theorem nval_set : ∀ (l : List Nat) (j v : Nat), j < l.length → nval (l.set j v) + 10 ^ j * l.getD j 0 = nval l + 10 ^ j * v
  | [], j, v, h => by simp at h
  | a :: l, 0, v, h => by simp [nval]; omega
  | a :: l, j + 1, v, h => by
    have ih := nval_set l j v (by simpa using h)
    simp only [List.set_cons_succ, nval, List.getD_cons_succ, Nat.pow_succ]
    have e1 : 10 ^ j * 10 * l.getD j 0 = 10 * (10 ^ j * l.getD j 0) := by rw [Nat.mul_comm (10 ^ j) 10, Nat.mul_assoc]
    have e2 : 10 ^ j * 10 * v = 10 * (10 ^ j * v) := by rw [Nat.mul_comm (10 ^ j) 10, Nat.mul_assoc]
    rw [e1, e2]; omega
theorem Tens.set {l : List Nat} (h : Tens l) (j v : Nat) (hv : v < 10) : Tens (l.set j v) := by
  intro a ha
  rcases List.mem_or_eq_of_mem_set ha with h1 | h1
  · exact h a h1
  · omega
theorem Tens.getD {l : List Nat} (h : Tens l) (j : Nat) : l.getD j 0 ≤ 9 := by
  rw [List.getD_eq_getElem?_getD]
  cases hq : l[j]? with
  | none => simp
  | some a => have := h a (List.mem_of_getElem? hq); simp; omega
theorem nval_take_succ (l : List Nat) (i : Nat) (h : i < l.length) : nval (l.take (i + 1)) = nval (l.take i) + 10 ^ i * l[i] := by
  rw [List.take_succ_eq_append_getElem h, nval_snoc, List.length_take, Nat.min_eq_left (by omega)]
theorem getD_set_ne (l : List Nat) (j m v : Nat) (h : j ≠ m) : (l.set m v).getD j 0 = l.getD j 0 := by
  rw [List.getD_eq_getElem?_getD, List.getD_eq_getElem?_getD, List.getElem?_set_ne (fun e => h e.symm)]
/-- The outer loop of the product. -/
structure MOut (x y out : List Nat) (i : Nat) : Prop where
  tens : Tens out
  len : out.length = x.length + y.length + 1
  zero : ∀ j, i + y.length ≤ j → out.getD j 0 = 0
  val : nval out = nval (x.take i) * nval y
/-- The inner one. -/
structure MIn (x y out : List Nat) (i k c : Nat) : Prop where
  tens : Tens out
  len : out.length = x.length + y.length + 1
  carry : c ≤ 9
  kle : k ≤ y.length + 1
  last : k = y.length + 1 → c = 0
  zero : ∀ j, i + y.length + 1 ≤ j → out.getD j 0 = 0
  top : k ≤ y.length → out.getD (i + y.length) 0 = 0
  val : nval out + c * 10 ^ (i + k) = nval (x.take i) * nval y + x.getD i 0 * (10 ^ i * nval (y.take k))
theorem MOut.start (x y : List Nat) : MOut x y (List.replicate (x.length + y.length + 1) 0) 0 := by
  refine ⟨fun a ha => by have := List.eq_of_mem_replicate ha; omega, by simp, fun j _ => ?_, by simp [nval, nval_zeros]⟩
  rw [List.getD_eq_getElem?_getD, List.getElem?_replicate]
  split <;> rfl
theorem MOut.inner {x y out : List Nat} {i : Nat} (h : MOut x y out i) : MIn x y out i 0 0 := by
  refine ⟨h.tens, h.len, by omega, by omega, fun _ => rfl, fun j hj => h.zero j (by omega), fun _ => h.zero _ (Nat.le_refl _), ?_⟩
  simp [h.val, nval]
theorem MIn.done {x y out : List Nat} {i k c : Nat} (h : MIn x y out i k c) (hk : y.length ≤ k) (hc : c = 0) (hi : i < x.length) : MOut x y out (i + 1) := by
  refine ⟨h.tens, h.len, fun j hj => h.zero j (by omega), ?_⟩
  have hv := h.val
  rw [hc, Nat.zero_mul, Nat.add_zero, List.take_of_length_le hk] at hv
  rw [hv, nval_take_succ x i hi, Nat.add_mul]
  congr 1
  rw [List.getD_eq_getElem?_getD, List.getElem?_eq_getElem hi]
  simp only [Option.getD_some]
  rw [Nat.mul_comm (10 ^ i) x[i], Nat.mul_assoc]
theorem mul_arith (V c P n a T X Y Z : Nat) (h : V + c * P = T) (hn : n = a + c + X) (hX : X * P = Y) (W : Nat) (hW : W + P * a = V + P * (n % 10)) : W + n / 10 * (P * 10) = T + Y := by
  have h1 : n = 10 * (n / 10) + n % 10 := by omega
  have h2 : P * n = P * a + P * c + P * X := by rw [hn, Nat.mul_add, Nat.mul_add]
  have h3 : P * n = P * 10 * (n / 10) + P * (n % 10) := by rw [Nat.mul_assoc, ← Nat.mul_add, ← h1]
  have h4 : n / 10 * (P * 10) = P * 10 * (n / 10) := Nat.mul_comm _ _
  have h5 : c * P = P * c := Nat.mul_comm _ _
  have h6 : P * X = Y := by rw [Nat.mul_comm]; exact hX
  omega
theorem MIn.step {x y out : List Nat} {i k c n : Nat} (h : MIn x y out i k c) (hi : i < x.length) (hgo : k < y.length ∨ 0 < c)
    (hn : n = out.getD (i + k) 0 + c + (if k < y.length then x.getD i 0 * y.getD k 0 else 0)) (hx : Tens x) (hy : Tens y) : MIn x y (out.set (i + k) (n % 10)) i (k + 1) (n / 10) ∧ n ≤ 99 ∧ i + k < out.length := by
  have hk : k ≤ y.length := by
    rcases hgo with h1 | h1
    · omega
    · rcases Nat.lt_or_ge k (y.length + 1) with h2 | h2
      · omega
      · have := h.last (by have := h.kle; omega); omega
  have hlen := h.len
  have hik : i + k < out.length := by omega
  have hout := h.tens.getD (i + k)
  have hx9 := hx.getD i
  have hy9 := hy.getD k
  have hmul : x.getD i 0 * y.getD k 0 ≤ 81 := Nat.le_trans (Nat.mul_le_mul hx9 hy9) (by decide)
  have hc := h.carry
  have hn99 : n ≤ 99 := by rw [hn]; split <;> omega
  refine ⟨⟨h.tens.set _ _ (by omega), by simp [hlen], by omega, by omega, fun e => ?_, fun j hj => ?_, fun hk2 => ?_, ?_⟩, hn99, hik⟩
  · have hk3 : k = y.length := by omega
    rw [if_neg (by omega), hk3, h.top (by omega)] at hn
    omega
  · rw [getD_set_ne _ _ _ _ (by omega)]; exact h.zero j hj
  · rw [getD_set_ne _ _ _ _ (by omega)]; exact h.top (by omega)
  · have hs := nval_set out (i + k) (n % 10) hik
    have hp : 10 ^ (i + (k + 1)) = 10 ^ (i + k) * 10 := by rw [← Nat.add_assoc, Nat.pow_succ]
    rw [hp]
    by_cases hky : k < y.length
    · rw [if_pos hky] at hn
      have hty : nval (y.take (k + 1)) = nval (y.take k) + 10 ^ k * y.getD k 0 := by
        rw [nval_take_succ y k hky, List.getD_eq_getElem?_getD, List.getElem?_eq_getElem hky]; rfl
      rw [hty, Nat.mul_add, Nat.mul_add, ← Nat.add_assoc]
      refine mul_arith (nval out) c (10 ^ (i + k)) n (out.getD (i + k) 0) _ (x.getD i 0 * y.getD k 0) _ 0 h.val hn ?_ _ hs
      rw [Nat.pow_add]
      simp only [Nat.mul_assoc, Nat.mul_comm, Nat.mul_left_comm]
    · rw [if_neg hky] at hn
      have e1 : y.take (k + 1) = y.take k := by rw [List.take_of_length_le (by omega), List.take_of_length_le (by omega)]
      rw [e1]
      have := mul_arith (nval out) c (10 ^ (i + k)) n (out.getD (i + k) 0) _ 0 0 0 h.val hn (by simp) _ hs
      omega
end Go.Proofs.YtofhacafekfkgaaDoor
