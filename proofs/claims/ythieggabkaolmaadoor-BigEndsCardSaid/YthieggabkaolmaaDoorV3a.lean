/- The walk of BigEnds: whatever the number, true. -/
import Derived.Test.YthieggabkaolmaaDoorV2
namespace Go.Proofs.YthieggabkaolmaaDoor
open Go.RowKit Go.BigM
set_option linter.unusedVariables false

theorem dval_nines (n : Nat) : dval (List.replicate n 57) + 1 = 10 ^ n := by
  induction n with
  | zero => rfl
  | succ n ih =>
    rw [List.replicate_succ', dval_snoc, Nat.pow_succ]
    have : (57 : UInt8).toNat = 57 := rfl
    omega
theorem dval_tens (n : Nat) : dval (49 :: List.replicate n 48) = 10 ^ n := by
  have hz : ∀ n, dval (List.replicate n 48) = 0 := by
    intro n
    induction n with
    | zero => rfl
    | succ n ih =>
      rw [List.replicate_succ', dval_snoc, ih]; rfl
  rw [dval_cons, hz, List.length_replicate]
  have : (49 : UInt8).toNat - 48 = 1 := rfl
  rw [this]; omega
theorem high_cons (a : UInt8) (l : List UInt8) (h : a ≠ 45) : low (a :: l) = false := by unfold low; simp [h]
theorem nines_is (s : ByteArray) (h : s.data.toList = List.replicate 200 57) : Is s ((Lim : Int) - 1) := by
  have hl : low (List.replicate 200 57) = false := high_cons 57 (List.replicate 199 57) (by decide)
  have hs : strip (List.replicate 200 57) = List.replicate 200 57 := strip_high _ hl
  have hc : Canon s.data.toList := by
    rw [h]; unfold Canon; rw [hs, List.length_replicate]
    refine ⟨by decide, by decide, fun c hc => ?_, Or.inl ?_⟩
    · rw [List.eq_of_mem_replicate hc]; decide
    · show (some (57 : UInt8)) ≠ some 48; decide
  have hv : ival s.data.toList = (Lim : Int) - 1 := by
    have h1 := dval_nines 200
    rw [h]; unfold ival; rw [hl, hs, sgn_false]
    have h2 : dval (List.replicate 200 57) + 1 = Lim := h1
    omega
  exact hv ▸ Is.of s hc
theorem tens_is (s : ByteArray) (m : Nat) (hm : m ≤ 199) (h : s.data.toList = 49 :: List.replicate m 48) : Is s ((10 ^ m : Nat) : Int) := by
  have hl : low (49 :: List.replicate m 48) = false := high_cons 49 _ (by decide)
  have hs : strip (49 :: List.replicate m 48) = 49 :: List.replicate m 48 := strip_high _ hl
  have hc : Canon s.data.toList := by
    rw [h]; unfold Canon; rw [hs, List.length_cons, List.length_replicate]
    refine ⟨by omega, by omega, fun c hc => ?_, Or.inl ?_⟩
    · rcases List.mem_cons.1 hc with rfl | hc
      · decide
      · rw [List.eq_of_mem_replicate hc]; decide
    · show (some (49 : UInt8)) ≠ some 48; decide
  have hv : ival s.data.toList = ((10 ^ m : Nat) : Int) := by
    rw [h]; unfold ival; rw [hl, hs, sgn_false, dval_tens]
  exact hv ▸ Is.of s hc
theorem Lim_big : 10 ^ 199 + 2 ≤ Lim := by
  have h1 : Lim = 10 ^ 199 * 10 := Nat.pow_succ 10 199
  have h2 : 1 ≤ 10 ^ 199 := Nat.pow_pos (by decide)
  omega
theorem size_pos {s : ByteArray} {z : Int} (h : Is s z) (hz : ((10 ^ 199 : Nat) : Int) ≤ z) : s.size = 200 := by
  have hp : 0 < z := by have : 0 < 10 ^ 199 := Nat.pow_pos (by decide); omega
  rw [Lib.size_eq, h.2.2, txt_pos z hp h.lim]
  have h1 := (Lim_len z.natAbs).2 h.lim
  have h2 := digs_len 199 z.natAbs
  omega
theorem size_neg {s : ByteArray} {z : Int} (h : Is s z) (hz : z ≤ -((10 ^ 199 : Nat) : Int)) : s.size = 201 := by
  have hp : z < 0 := by have : 0 < 10 ^ 199 := Nat.pow_pos (by decide); omega
  rw [Lib.size_eq, h.2.2, txt_neg z hp h.lim, List.length_cons]
  have h1 := (Lim_len z.natAbs).2 h.lim
  have h2 := digs_len 199 z.natAbs
  omega
theorem add_no {s t : ByteArray} {x y : Int} (hs : Is s x) (ht : Is t y) (h : ¬ (x + y).natAbs < Lim) (w : World) : Calls Tryd.prog 18 #[.string s, .string t] w (RetS w ⟨#[]⟩ false) :=
  (add_any s t hs.1 ht.1 w).mono fun _ _ k => RetI.ret ⟨#[]⟩ false k (by rw [hs.2.1, ht.2.1]; unfold txtI txt; rw [if_neg (by have := Lim_pos; omega), if_neg h]) (by rw [hs.2.1, ht.2.1]; exact decide_eq_false h)
theorem mul_no {s t : ByteArray} {x y : Int} (hs : Is s x) (ht : Is t y) (h : ¬ (x * y).natAbs < Lim) (w : World) : Calls Tryd.prog 22 #[.string s, .string t] w (RetS w ⟨#[]⟩ false) :=
  (mul_any s t hs.1 ht.1 w).mono fun _ _ k => RetI.ret ⟨#[]⟩ false k (by rw [hs.2.1, ht.2.1]; unfold txtI txt; rw [if_neg (by have := Lim_pos; omega), if_neg h]) (by rw [hs.2.1, ht.2.1]; exact decide_eq_false h)
end Go.Proofs.YthieggabkaolmaaDoor
