/- Numbers of so many digits; the four operations' contracts by the numbers that their texts are. -/
import Derived.Test.YtebadokchhnmfaaDoorO1
import Derived.Test.YtebadokchhnmfaaDoorF3
namespace Go.Proofs.YtebadokchhnmfaaDoor
open Go.RowKit Go.BigM
set_option linter.unusedVariables false

/-- At most n digits. -/
def Dg (z : Int) (n : Nat) : Prop := z.natAbs < 10 ^ n
theorem Dg.add {x y : Int} {n : Nat} (h : Dg x n) (k : Dg y n) : Dg (x + y) (n + 1) := by
  unfold Dg at *
  have h2 : (10 : Nat) ^ (n + 1) = 10 ^ n * 10 := Nat.pow_succ _ _
  omega
theorem Dg.mul {x y : Int} {n m : Nat} (h : Dg x n) (k : Dg y m) : Dg (x * y) (n + m) := by
  unfold Dg at *
  rw [Int.natAbs_mul, Nat.pow_add]
  exact Nat.mul_lt_mul'' h k
theorem Dg.neg {x : Int} {n : Nat} (h : Dg x n) : Dg (-x) n := by unfold Dg at *; rw [Int.natAbs_neg]; exact h
theorem Dg.up {x : Int} {n : Nat} (h : Dg x n) (m : Nat) (hm : n ≤ m) : Dg x m := Nat.lt_of_lt_of_le h (Nat.pow_le_pow_right (by decide) hm)
theorem Dg.lim {x : Int} {n : Nat} (h : Dg x n) (hn : n ≤ 200) : x.natAbs < Lim := Nat.lt_of_lt_of_le h (pow_Lim n hn)

/-- The string s is the text of the number z. -/
def Is (s : ByteArray) (z : Int) : Prop := Canon s.data.toList ∧ ival s.data.toList = z ∧ s.data.toList = txtI z
theorem Is.of (s : ByteArray) (h : Canon s.data.toList) : Is s (ival s.data.toList) := ⟨h, rfl, (canon_txt _ h).symm⟩
theorem Is.mk (z : Int) (h : z.natAbs < Lim) : ∃ s, Is s z := ⟨⟨(txtI z).toArray⟩, (txtI_spec z h).1, (txtI_spec z h).2, rfl⟩
theorem Is.lim {s : ByteArray} {z : Int} (h : Is s z) : z.natAbs < Lim := by rw [← h.2.1]; exact canon_ival _ h.1
theorem Is.same {s t : ByteArray} {z : Int} (h : Is s z) (k : Is t z) : s = t := eq_of_ival s t h.1 k.1 (h.2.1.trans k.2.1.symm)
theorem Is.ne {s : ByteArray} {z : Int} (h : Is s z) : s.toList.isEmpty = false := by
  rw [Lib.toList_data]
  cases hd : s.data.toList with
  | nil => have := h.1; rw [hd] at this; exact absurd this (by decide)
  | cons a m => rfl
theorem Is.size {s : ByteArray} {z : Int} (h : Is s z) : s.size ≤ 201 := canon_size s h.1

theorem add_v {s t D : ByteArray} {x y : Int} (hs : Is s x) (ht : Is t y) (hD : Is D (x + y)) (w : World) : Calls Tryd.prog 18 #[.string s, .string t] w (RetS w D true) :=
  add_r s t D hs.1 ht.1 (by rw [hs.2.1, ht.2.1]; exact hD.2.2) (by rw [hs.2.1, ht.2.1]; exact hD.lim) w
theorem sub_v {s t D : ByteArray} {x y : Int} (hs : Is s x) (ht : Is t y) (hD : Is D (x - y)) (w : World) : Calls Tryd.prog 20 #[.string s, .string t] w (RetS w D true) :=
  sub_r s t D hs.1 ht.1 (by rw [hs.2.1, ht.2.1]; exact hD.2.2) (by rw [hs.2.1, ht.2.1]; exact hD.lim) w
theorem mul_v {s t D : ByteArray} {x y : Int} (hs : Is s x) (ht : Is t y) (hD : Is D (x * y)) (w : World) : Calls Tryd.prog 22 #[.string s, .string t] w (RetS w D true) :=
  (mul_any s t hs.1 ht.1 w).mono fun _ _ h => RetI.ret D true h (by rw [hs.2.1, ht.2.1]; exact hD.2.2) (by rw [hs.2.1, ht.2.1]; exact decide_eq_true hD.lim)
theorem cmp_v {s t : ByteArray} {x y : Int} (hs : Is s x) (ht : Is t y) (r : Int) (hr : cmpI x y = r) (w : World) : Calls Tryd.prog 26 #[.string s, .string t] w (RetC w r) :=
  cmp_r s t hs.1 ht.1 r (by rw [hs.2.1, ht.2.1]; exact hr) w
end Go.Proofs.YtebadokchhnmfaaDoor
