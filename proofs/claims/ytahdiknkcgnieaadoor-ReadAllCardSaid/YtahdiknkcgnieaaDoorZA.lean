/- Plain mathematics: digits, texts and limbs. Nothing of the program is named here. -/
import Derived.Test.YtahdiknkcgnieaaDoorProg
import Derived.WalkKit
import Derived.Lib.Hide
import Derived.Lib.TrimByte
import Derived.PlainAid
import Derived.Lib.Strings
import Derived.Lib.Slices
import Derived.Lib.Walk
import Derived.Lib.Bytealg
import Derived.Laws.Externs
import Derived.Lib.UnsafeStr
import Derived.Laws.MakeOwn
import Derived.Laws.CopyRow
import Derived.Laws.Tables
import Derived.Below
import Derived.Deep.Cut
import Derived.Lib.Builder
import Derived.Lib.AppendStr
import Derived.Laws.ResultCell
import Derived.Laws.Rows
namespace Go.BigM
set_option linter.unusedVariables false

/-- A byte is a digit. -/
def isD (c : UInt8) : Prop := 48 ≤ c.toNat ∧ c.toNat ≤ 57
instance (c : UInt8) : Decidable (isD c) := by unfold isD; infer_instance

/-- The value of a row of digits, the highest first. -/
def dval (l : List UInt8) : Nat := l.foldl (fun n c => 10 * n + (c.toNat - 48)) 0

theorem dval_nil : dval [] = 0 := rfl
theorem dval_snoc (l : List UInt8) (c : UInt8) : dval (l ++ [c]) = 10 * dval l + (c.toNat - 48) := by
  unfold dval; rw [List.foldl_append]; rfl

theorem dval_go (l : List UInt8) : ∀ n, l.foldl (fun n c => 10 * n + (c.toNat - 48)) n = n * 10 ^ l.length + dval l := by
  induction l with
  | nil => intro n; simp [dval]
  | cons c l ih =>
    intro n
    have h1 := ih (10 * n + (c.toNat - 48))
    have h2 := ih (10 * 0 + (c.toNat - 48))
    simp only [List.foldl_cons, dval]
    rw [h1, h2]
    simp only [List.length_cons, Nat.pow_succ]
    rw [Nat.add_mul, Nat.add_mul]
    have : 10 * n * 10 ^ l.length = n * (10 ^ l.length * 10) := by rw [Nat.mul_comm 10 n, Nat.mul_assoc, Nat.mul_comm 10]
    omega

theorem dval_append (l m : List UInt8) : dval (l ++ m) = dval l * 10 ^ m.length + dval m := by
  unfold dval; rw [List.foldl_append]; exact dval_go m _

theorem dval_cons (c : UInt8) (m : List UInt8) : dval (c :: m) = (c.toNat - 48) * 10 ^ m.length + dval m := by
  have := dval_append [c] m
  simpa [dval] using this

theorem dval_lt (l : List UInt8) (h : ∀ c ∈ l, isD c) : dval l < 10 ^ l.length := by
  induction l with
  | nil => simp [dval]
  | cons c l ih =>
    rw [dval_cons, List.length_cons, Nat.pow_succ]
    have h1 := ih (fun x hx => h x (by simp [hx]))
    have h2 := (h c (by simp)).2
    have : (c.toNat - 48) * 10 ^ l.length ≤ 9 * 10 ^ l.length := Nat.mul_le_mul_right _ (by omega)
    omega

/-- The limb at a place; 0 behind the end. -/
def lg (l : List Nat) (j : Nat) : Nat := l.getD j 0

/-- The base of a limb. -/
def B : Nat := 1000000000

/-- The value of a row of limbs, the lowest first. -/
def lval : List Nat → Nat
  | [] => 0
  | a :: l => a + B * lval l

/-- All are limbs. -/
def Small (l : List Nat) : Prop := ∀ a ∈ l, a < B

theorem Small.nil : Small [] := by simp [Small]
theorem Small.cons {a l} (h : a < B) (hl : Small l) : Small (a :: l) := by
  intro x hx; simp at hx; rcases hx with rfl | hx; exact h; exact hl x hx
theorem Small.tail {a l} (h : Small (a :: l)) : Small l := fun x hx => h x (by simp [hx])
theorem Small.head {a l} (h : Small (a :: l)) : a < B := h a (by simp)
theorem Small.append {l m} (h : Small l) (k : Small m) : Small (l ++ m) := by
  intro x hx; simp at hx; rcases hx with hx | hx; exact h x hx; exact k x hx
theorem Small.left {l m} (h : Small (l ++ m)) : Small l := fun x hx => h x (by simp [hx])
theorem Small.right {l m} (h : Small (l ++ m)) : Small m := fun x hx => h x (by simp [hx])
theorem Small.take {l} (h : Small l) (n : Nat) : Small (l.take n) := fun x hx => h x (List.mem_of_mem_take hx)
theorem Small.drop {l} (h : Small l) (n : Nat) : Small (l.drop n) := fun x hx => h x (List.mem_of_mem_drop hx)
theorem Small.getD {l} (h : Small l) (n : Nat) : l.getD n 0 < B := by
  rw [List.getD_eq_getElem?_getD]
  by_cases hn : n < l.length
  · rw [List.getElem?_eq_getElem hn]; exact h _ (List.getElem_mem hn)
  · rw [List.getElem?_eq_none (by omega)]; simp [B]
theorem Small.zeros (n : Nat) : Small (List.replicate n 0) := by
  intro x hx; simp [List.mem_replicate] at hx; rw [hx.2]; simp [B]

theorem lval_append (l m : List Nat) : lval (l ++ m) = lval l + B ^ l.length * lval m := by
  induction l with
  | nil => simp [lval]
  | cons a l ih =>
    simp only [List.cons_append, lval, ih, List.length_cons, Nat.pow_succ]
    rw [Nat.mul_add, ← Nat.mul_assoc, Nat.mul_comm B (B ^ l.length)]; omega

theorem lval_snoc (l : List Nat) (a : Nat) : lval (l ++ [a]) = lval l + B ^ l.length * a := by
  rw [lval_append]; simp [lval]

theorem lval_zeros (n : Nat) : lval (List.replicate n 0) = 0 := by
  induction n with
  | zero => rfl
  | succ n ih => simp [List.replicate_succ, lval, ih]

theorem lval_lt (l : List Nat) (h : Small l) : lval l < B ^ l.length := by
  induction l with
  | nil => simp [lval]
  | cons a l ih =>
    have h1 := ih h.tail
    have h2 := h.head
    simp only [lval, List.length_cons, Nat.pow_succ]
    have : B * (lval l + 1) ≤ B * B ^ l.length := Nat.mul_le_mul_left _ (by omega)
    rw [Nat.mul_comm (B ^ l.length) B]
    rw [Nat.mul_add] at this
    omega

theorem Bpos (n : Nat) : 0 < B ^ n := Nat.pow_pos (by simp [B])

/-- Rows of one length, of limbs, of one value, are one. -/
theorem lval_inj : ∀ (l m : List Nat), l.length = m.length → Small l → Small m → lval l = lval m → l = m
  | [], [], _, _, _, _ => rfl
  | a :: l, b :: m, hl, h1, h2, hv => by
    simp only [lval] at hv
    have e1 : (a + B * lval l) % B = (b + B * lval m) % B := by rw [hv]
    rw [Nat.add_mul_mod_self_left, Nat.add_mul_mod_self_left, Nat.mod_eq_of_lt h1.head, Nat.mod_eq_of_lt h2.head] at e1
    subst e1
    have : B * lval l = B * lval m := by omega
    have := Nat.eq_of_mul_eq_mul_left (show 0 < B by simp [B]) this
    rw [lval_inj l m (by simpa using hl) h1.tail h2.tail this]
  | [], b :: m, hl, _, _, _ => by simp at hl
  | a :: l, [], hl, _, _, _ => by simp at hl

theorem lval_split (l : List Nat) (n : Nat) : lval l = lval (l.take n) + B ^ (min n l.length) * lval (l.drop n) := by
  have := lval_append (l.take n) (l.drop n)
  rw [List.take_append_drop] at this
  rw [this, List.length_take]

theorem take_succ_getD (l : List Nat) (n : Nat) (h : n < l.length) : l.take (n + 1) = l.take n ++ [l.getD n 0] := by
  rw [List.take_succ_eq_append_getElem h, List.getD_eq_getElem?_getD, List.getElem?_eq_getElem h]; rfl

theorem lval_take_succ (l : List Nat) (n : Nat) (h : n < l.length) : lval (l.take (n + 1)) = lval (l.take n) + B ^ n * l.getD n 0 := by
  rw [take_succ_getD l n h, lval_snoc, List.length_take, Nat.min_eq_left (by omega)]

theorem lval_take_ge (l : List Nat) (n : Nat) (h : l.length ≤ n) : lval (l.take n) = lval l := by rw [List.take_of_length_le h]

/-- A text without the sign that it may begin with. -/
def strip (l : List UInt8) : List UInt8 := if l.head? = some 45 then l.tail else l
/-- Does it begin with the sign? -/
def low (l : List UInt8) : Bool := l.head? == some 45
theorem strip_low (l : List UInt8) (h : low l = true) : strip l = l.tail := by unfold strip low at *; rw [if_pos (by simpa using h)]
theorem strip_high (l : List UInt8) (h : low l = false) : strip l = l := by unfold strip low at *; rw [if_neg (by simpa using h)]
/-- A number's text: W1 of the document. -/
def Canon (l : List UInt8) : Prop := 1 ≤ (strip l).length ∧ (strip l).length ≤ 200 ∧ (∀ c ∈ strip l, isD c) ∧ ((strip l).head? ≠ some 48 ∨ l = [48])
instance (l : List UInt8) : Decidable (Canon l) := by unfold Canon; infer_instance
theorem strip_le (l : List UInt8) : (strip l).length ≤ l.length := by unfold strip; split <;> simp

/-- How many limbs there are without the noughts on top. -/
def usedOf : List Nat → Nat
  | [] => 0
  | a :: l => if usedOf l = 0 then (if a = 0 then 0 else 1) else usedOf l + 1
theorem usedOf_le (l : List Nat) : usedOf l ≤ l.length := by
  induction l with
  | nil => simp [usedOf]
  | cons a l ih => simp only [usedOf, List.length_cons]; split <;> (try split) <;> omega
theorem usedOf_zeros (n : Nat) : usedOf (List.replicate n 0) = 0 := by
  induction n with
  | zero => rfl
  | succ n ih => simp [List.replicate_succ, usedOf, ih]
/-- It is k, if the limbs from k on are noughts, and the one ahead is none. -/
theorem usedOf_is : ∀ (l : List Nat) (k : Nat), k ≤ l.length → (∀ j, k ≤ j → l.getD j 0 = 0) → (k = 0 ∨ l.getD (k - 1) 0 ≠ 0) → usedOf l = k
  | [], k, hk, _, _ => by simp at hk; simp [usedOf, hk]
  | a :: l, 0, hk, hz, _ => by
    have := usedOf_is l 0 (Nat.zero_le _) (fun j _ => by have := hz (j + 1) (Nat.zero_le _); simpa using this) (Or.inl rfl)
    have ha := hz 0 (Nat.zero_le _)
    simp at ha
    simp [usedOf, this, ha]
  | a :: l, 1, hk, hz, hn => by
    have := usedOf_is l 0 (Nat.zero_le _) (fun j _ => by have := hz (j + 1) (by omega); simpa using this) (Or.inl rfl)
    have ha : a ≠ 0 := by simpa using hn
    simp [usedOf, this, ha]
  | a :: l, k + 2, hk, hz, hn => by
    have := usedOf_is l (k + 1) (by simpa using hk) (fun j hj => by have := hz (j + 1) (by omega); simpa using this) (Or.inr (by simpa using hn))
    simp [usedOf, this]
theorem usedOf_zero : ∀ (l : List Nat) (j : Nat), usedOf l ≤ j → l.getD j 0 = 0
  | [], j, _ => by simp
  | a :: l, 0, h => by
    simp only [usedOf] at h
    simp only [List.getD_cons_zero]
    split at h
    · split at h <;> omega
    · omega
  | a :: l, j + 1, h => by
    simp only [List.getD_cons_succ]
    refine usedOf_zero l j ?_
    simp only [usedOf] at h
    split at h <;> omega
theorem usedOf_top : ∀ (l : List Nat), usedOf l ≠ 0 → l.getD (usedOf l - 1) 0 ≠ 0
  | [], h => by simp [usedOf] at h
  | a :: l, h => by
    simp only [usedOf] at h ⊢
    by_cases hl : usedOf l = 0
    · simp only [hl, if_true] at h ⊢
      by_cases ha : a = 0
      · simp [ha] at h
      · simp [ha]
    · simp only [hl, if_false] at h ⊢
      have := usedOf_top l hl
      obtain ⟨m, hm⟩ : ∃ m, usedOf l = m + 1 := ⟨usedOf l - 1, by omega⟩
      rw [hm] at this ⊢
      simpa using this
theorem lval_drop_zero (l : List Nat) : ∀ n, (∀ j, n ≤ j → l.getD j 0 = 0) → lval (l.drop n) = 0 := by
  induction l with
  | nil => intro n _; simp [lval]
  | cons a l ih =>
    intro n h
    cases n with
    | zero =>
      have h0 := h 0 (Nat.le_refl _)
      have := ih 0 (fun j _ => by have := h (j + 1) (by omega); simpa using this)
      simp at h0 this
      simp [lval, h0, this]
    | succ n => simpa using ih n (fun j hj => by have := h (j + 1) (by omega); simpa using this)
theorem lval_used (l : List Nat) : lval (l.take (usedOf l)) = lval l := by
  rw [lval_split l (usedOf l), lval_drop_zero l _ (fun j hj => usedOf_zero l j hj)]; omega
theorem usedOf_zero_iff (l : List Nat) : usedOf l = 0 ↔ lval l = 0 := by
  constructor
  · intro h; have := lval_used l; rw [h] at this; simpa [lval] using this.symm
  · intro h
    by_cases hu : usedOf l = 0
    · exact hu
    · exfalso
      have h1 := usedOf_top l hu
      have h2 := lval_take_succ l (usedOf l - 1) (by have := usedOf_le l; omega)
      have h3 : usedOf l - 1 + 1 = usedOf l := by omega
      rw [h3, lval_used, h] at h2
      have : 0 < B ^ (usedOf l - 1) * l.getD (usedOf l - 1) 0 := Nat.mul_pos (Bpos _) (Nat.pos_of_ne_zero h1)
      omega

theorem lval_lt_of_top (A C : List Nat) (k : Nat) (hA : k < A.length) (hC : k < C.length) (h1 : Small A) (hd : A.drop (k + 1) = C.drop (k + 1)) (hl : lg A k < lg C k) :
    lval A < lval C := by
  have eA := lval_split A (k + 1)
  have eC := lval_split C (k + 1)
  rw [Nat.min_eq_left (by omega), lval_take_succ _ _ hA] at eA
  rw [Nat.min_eq_left (by omega), lval_take_succ _ _ hC, ← hd] at eC
  have b1 := lval_lt (A.take k) (h1.take k)
  rw [List.length_take, Nat.min_eq_left (by omega)] at b1
  have b2 : B ^ k * (A.getD k 0 + 1) ≤ B ^ k * C.getD k 0 := Nat.mul_le_mul_left _ hl
  rw [Nat.mul_add, Nat.mul_one] at b2
  omega
theorem drop_step (A C : List Nat) (k : Nat) (hA : k < A.length) (hC : k < C.length) (hd : A.drop (k + 1) = C.drop (k + 1)) (hl : lg A k = lg C k) : A.drop k = C.drop k := by
  rw [List.drop_eq_getElem_cons hA, List.drop_eq_getElem_cons hC, hd]
  congr 1
  unfold lg at hl
  rw [List.getD_eq_getElem?_getD, List.getD_eq_getElem?_getD, List.getElem?_eq_getElem hA, List.getElem?_eq_getElem hC] at hl
  exact hl

theorem lval_take_lg (l : List Nat) (n : Nat) : lval (l.take (n + 1)) = lval (l.take n) + B ^ n * lg l n := by
  by_cases h : n < l.length
  · exact lval_take_succ l n h
  · rw [List.take_of_length_le (by omega), List.take_of_length_le (by omega)]
    have : lg l n = 0 := by unfold lg; rw [List.getD_eq_getElem?_getD, List.getElem?_eq_none (by omega)]; rfl
    rw [this]; omega
theorem lg_of_drop (l : List Nat) (o i : Nat) : lg (l.drop o) i = lg l (o + i) := by
  unfold lg; rw [List.getD_eq_getElem?_getD, List.getD_eq_getElem?_getD, List.getElem?_drop]
/-- One step of a sum with carry. -/
theorem add_step (P A q Rv c a r i : Nat) (h : P + B ^ i * c = A + q * Rv) :
    P + B ^ i * ((c + a + r * q) % B) + B ^ (i + 1) * ((c + a + r * q) / B) = A + B ^ i * a + q * (Rv + B ^ i * r) := by
  have h1 := Nat.mod_add_div (c + a + r * q) B
  have h2 : B ^ i * ((c + a + r * q) % B) + B ^ (i + 1) * ((c + a + r * q) / B) = B ^ i * (c + a + r * q) := by
    rw [Nat.pow_succ, Nat.mul_assoc, ← Nat.mul_add, h1]
  have h3 : B ^ i * (c + a + r * q) = B ^ i * c + B ^ i * a + q * (B ^ i * r) := by
    rw [Nat.mul_add, Nat.mul_add, Nat.mul_comm r q, ← Nat.mul_assoc, ← Nat.mul_assoc, Nat.mul_comm (B ^ i) q]
  rw [Nat.mul_add]
  omega

/-- One step of a difference with borrow: d is what is left of a, with b borrowed (0 or 1). -/
theorem take_step (P A q Rv c a r i d b : Nat) (h : P + q * Rv = A + B ^ i * c) (hd : d + (c + r * q) % B = a + B * b) :
    P + B ^ i * d + q * (Rv + B ^ i * r) = A + B ^ i * a + B ^ (i + 1) * ((c + r * q) / B + b) := by
  have h1 := Nat.mod_add_div (c + r * q) B
  have h2 : B ^ i * ((c + r * q) % B) + B ^ (i + 1) * ((c + r * q) / B) = B ^ i * c + q * (B ^ i * r) := by
    rw [Nat.pow_succ, Nat.mul_assoc, ← Nat.mul_add, h1, Nat.mul_add, Nat.mul_comm r q, ← Nat.mul_assoc, ← Nat.mul_assoc, Nat.mul_comm (B ^ i) q]
  have h3 : B ^ i * d + B ^ i * ((c + r * q) % B) = B ^ i * a + B ^ (i + 1) * b := by
    rw [Nat.pow_succ, Nat.mul_assoc, ← Nat.mul_add, ← Nat.mul_add, hd]
  rw [Nat.mul_add, Nat.mul_add]
  omega

theorem lval_take_used (l : List Nat) (k : Nat) (h : usedOf l ≤ k) : lval (l.take k) = lval l := by
  rw [lval_split l k, lval_drop_zero l _ (fun j hj => usedOf_zero l j (by omega))]; omega
theorem lval_lt_used (l : List Nat) (k : Nat) (h : usedOf l ≤ k) (s : Small l) : lval l < B ^ k := by
  rw [← lval_take_used l k h]
  have := lval_lt (l.take k) (s.take k)
  rw [List.length_take] at this
  exact Nat.lt_of_lt_of_le this (Nat.pow_le_pow_right (by simp [B]) (Nat.min_le_left _ _))
theorem lval_drop_used (l : List Nat) (k : Nat) (h : usedOf l ≤ k) : lval (l.drop k) = 0 := lval_drop_zero l _ (fun j hj => usedOf_zero l j (by omega))
/-- Fewer limbs are used, the less the value is. -/
theorem used_of_lt (l : List Nat) (k : Nat) (h : lval l < B ^ k) : usedOf l ≤ k := by
  by_cases hu : usedOf l ≤ k
  · exact hu
  · exfalso
    have h1 := usedOf_top l (by omega)
    have h2 := lval_take_succ l (usedOf l - 1) (by have := usedOf_le l; omega)
    have h3 : usedOf l - 1 + 1 = usedOf l := by omega
    rw [h3, lval_used] at h2
    have h4 : B ^ k ≤ B ^ (usedOf l - 1) := Nat.pow_le_pow_right (by simp [B]) (by omega)
    have h5 : B ^ (usedOf l - 1) * 1 ≤ B ^ (usedOf l - 1) * l.getD (usedOf l - 1) 0 := Nat.mul_le_mul_left _ (Nat.pos_of_ne_zero h1)
    omega
theorem used_mono (l m : List Nat) (s : Small m) (h : lval l ≤ lval m) : usedOf l ≤ usedOf m := by
  have := lval_lt_used m _ (Nat.le_refl _) s
  exact used_of_lt l _ (by omega)

theorem dval_split (l : List UInt8) (c m : Nat) (hc : c ≤ m) (hm : m ≤ l.length) : dval (l.drop c) = dval ((l.take m).drop c) * 10 ^ (l.length - m) + dval (l.drop m) := by
  have : l.drop c = (l.take m).drop c ++ l.drop m := by
    rw [List.drop_take]
    have h2 : l.drop m = (l.drop c).drop (m - c) := by rw [List.drop_drop]; congr 1; omega
    rw [h2, List.take_append_drop]
  rw [this, dval_append, List.length_drop]
theorem B_pow (i : Nat) : B ^ i = 10 ^ (9 * i) := by unfold B; rw [Nat.pow_mul]

/-- The digits of a number, the highest first; none of 0. -/
def digs (v : Nat) : List UInt8 := if h : v = 0 then [] else digs (v / 10) ++ [UInt8.ofNat (48 + v % 10)]
theorem digs_zero : digs 0 = [] := by rw [digs]; simp
theorem digs_pos (v : Nat) (h : v ≠ 0) : digs v = digs (v / 10) ++ [UInt8.ofNat (48 + v % 10)] := by rw [digs, dif_neg h]
theorem dig_nat (d : Nat) (h : d < 10) : (UInt8.ofNat (48 + d)).toNat = 48 + d := by rw [UInt8.toNat_ofNat_of_lt' (by show _ < 256; omega)]
theorem dig_back (c : UInt8) (h : isD c) : UInt8.ofNat (48 + (c.toNat - 48)) = c := by
  apply UInt8.toNat_inj.1
  unfold isD at h
  rw [dig_nat _ (by omega)]; omega
theorem digs_isD : ∀ v, ∀ c ∈ digs v, isD c := by
  intro v
  induction v using Nat.strongRecOn with
  | _ v ih =>
    intro c hc
    by_cases h : v = 0
    · subst h; rw [digs_zero] at hc; simp at hc
    · rw [digs_pos v h] at hc
      simp only [List.mem_append, List.mem_singleton] at hc
      rcases hc with hc | rfl
      · exact ih (v / 10) (by omega) c hc
      · unfold isD; rw [dig_nat _ (by omega)]; omega
theorem dval_digs : ∀ v, dval (digs v) = v := by
  intro v
  induction v using Nat.strongRecOn with
  | _ v ih =>
    by_cases h : v = 0
    · subst h; rw [digs_zero]; rfl
    · rw [digs_pos v h, dval_snoc, ih (v / 10) (by omega), dig_nat _ (by omega)]; omega
theorem digs_head : ∀ v, (digs v).head? ≠ some 48 := by
  intro v
  induction v using Nat.strongRecOn with
  | _ v ih =>
    by_cases h : v = 0
    · subst h; rw [digs_zero]; simp
    · rw [digs_pos v h]
      by_cases h2 : v / 10 = 0
      · rw [h2, digs_zero]
        simp only [List.nil_append, List.head?_cons]
        intro e
        injection e with e
        have := congrArg UInt8.toNat e
        rw [dig_nat _ (by omega)] at this
        have h48 : (48 : UInt8).toNat = 48 := rfl
        omega
      · have h3 := ih (v / 10) (by omega)
        cases hd : digs (v / 10) with
        | nil => rw [digs_pos _ h2] at hd; simp at hd
        | cons a m => rw [hd] at h3; simpa using h3
theorem digs_len : ∀ n v, (digs v).length ≤ n ↔ v < 10 ^ n := by
  intro n
  induction n with
  | zero =>
    intro v
    by_cases h : v = 0
    · subst h; simp [digs_zero]
    · rw [digs_pos v h]; simp; omega
  | succ n ih =>
    intro v
    by_cases h : v = 0
    · subst h; simp [digs_zero, Nat.pow_pos]
    · rw [digs_pos v h, List.length_append, List.length_singleton, Nat.add_le_add_iff_right, ih (v / 10), Nat.pow_succ]
      rw [Nat.div_lt_iff_lt_mul (by decide)]
theorem digs_snoc (x : Nat) (c : UInt8) (hc : isD c) (h : 10 * x + (c.toNat - 48) ≠ 0) : digs (10 * x + (c.toNat - 48)) = digs x ++ [c] := by
  have hc' : c.toNat - 48 < 10 := by unfold isD at hc; omega
  rw [digs_pos _ h]
  have e1 : (10 * x + (c.toNat - 48)) / 10 = x := by omega
  have e2 : (10 * x + (c.toNat - 48)) % 10 = c.toNat - 48 := by omega
  rw [e1, e2, dig_back c hc]
/-- Without the noughts ahead a row of digits is its value's digits. -/
theorem trim_digs (D : List UInt8) : (∀ c ∈ D, isD c) → D.dropWhile (· == 48) = digs (dval D) := by
  have H : ∀ n (D : List UInt8), D.length = n → (∀ c ∈ D, isD c) → D.dropWhile (· == 48) = digs (dval D) := by
    intro n
    induction n with
    | zero => intro D hD _; obtain rfl := List.length_eq_zero_iff.1 hD; simp [dval, digs_zero]
    | succ n ih =>
      intro D hD hd
      obtain ⟨E, c, rfl⟩ : ∃ E c, D = E ++ [c] := by
        have hne : D ≠ [] := by intro h; rw [h] at hD; simp at hD
        exact ⟨D.dropLast, D.getLast hne, (List.dropLast_concat_getLast hne).symm⟩
      have hE := ih E (by simpa using hD) (fun x hx => hd x (by simp [hx]))
      have hc : isD c := hd c (by simp)
      rw [List.dropWhile_append, hE, dval_snoc]
      by_cases hx : dval E = 0
      · rw [hx, digs_zero]
        by_cases hc0 : c = 48
        · subst hc0; simp [digs_zero]
        · have hcn : c.toNat ≠ 48 := fun e => hc0 (UInt8.toNat_inj.1 (by rw [e]; rfl))
          unfold isD at hc
          have := digs_snoc 0 c hc (by omega)
          rw [digs_zero] at this
          rw [this]
          simp [hc0]
      · have hne : digs (dval E) ≠ [] := by rw [digs_pos _ hx]; simp
        rw [digs_snoc _ c hc (by omega)]
        cases hde : digs (dval E) with
        | nil => exact absurd hde hne
        | cons a m => simp
  exact H D.length D rfl
theorem digs_ne (v : Nat) (h : v ≠ 0) : digs v ≠ [] := by rw [digs_pos v h]; simp

/-- What a number must be below. -/
def Lim : Nat := 10 ^ 200
theorem Lim_len (v : Nat) : (digs v).length ≤ 200 ↔ v < Lim := digs_len 200 v
/-- The text of a number, as a row of bytes; none if it has too many digits. -/
def txt (b : Bool) (v : Nat) : List UInt8 := if v = 0 then [48] else if v < Lim then (if b then 45 :: digs v else digs v) else []

/-- A number of a sign and a size. -/
def sgn (b : Bool) (v : Nat) : Int := if b then -(v : Int) else v
theorem sgn_abs (b : Bool) (v : Nat) : (sgn b v).natAbs = v := by unfold sgn; split <;> omega
theorem sgn_true (v : Nat) : sgn true v = -(v : Int) := rfl
theorem sgn_false (v : Nat) : sgn false v = v := rfl
/-- A number's text. -/
def txtI (z : Int) : List UInt8 := txt (decide (z < 0)) z.natAbs
theorem txt_sgn (b : Bool) (v : Nat) : txt b v = txtI (sgn b v) := by
  unfold txtI
  rw [sgn_abs]
  by_cases h : v = 0
  · subst h; unfold txt; simp
  · cases b with
    | true => rw [sgn_true, decide_eq_true (by omega)]
    | false => rw [sgn_false, decide_eq_false (by omega)]
/-- The number that a text is. -/
def ival (l : List UInt8) : Int := sgn (low l) (dval (strip l))

theorem digs_low (v : Nat) : low (digs v) = false := by
  unfold low
  cases hd : digs v with
  | nil => rfl
  | cons a m =>
    have h := digs_isD v a (by rw [hd]; simp)
    simp
    intro e; subst e; unfold isD at h; have h45 : (45 : UInt8).toNat = 45 := rfl; omega
theorem Lim_pos : 0 < Lim := by unfold Lim; exact Nat.pow_pos (by decide)

theorem txtI_spec (z : Int) (h : z.natAbs < Lim) : Canon (txtI z) ∧ ival (txtI z) = z := by
  unfold txtI txt
  by_cases h0 : z.natAbs = 0
  · rw [if_pos h0]
    refine ⟨by decide, ?_⟩
    have : z = 0 := by omega
    subst this; rfl
  · rw [if_neg h0, if_pos h]
    have hl := (Lim_len _).2 h
    have hne := digs_ne _ h0
    have hlen : 1 ≤ (digs z.natAbs).length := by
      cases hd : digs z.natAbs with
      | nil => exact absurd hd hne
      | cons a m => simp
    by_cases hz : z < 0
    · rw [decide_eq_true hz, if_pos rfl]
      have hlow : low (45 :: digs z.natAbs) = true := by simp [low]
      have hst : strip (45 :: digs z.natAbs) = digs z.natAbs := by rw [strip_low _ hlow]; rfl
      refine ⟨⟨by rw [hst]; exact hlen, by rw [hst]; exact hl, by rw [hst]; exact digs_isD _, Or.inl (by rw [hst]; exact digs_head _)⟩, ?_⟩
      unfold ival
      rw [hst, hlow, dval_digs, sgn_true]; omega
    · rw [decide_eq_false hz, if_neg Bool.false_ne_true]
      have hst : strip (digs z.natAbs) = digs z.natAbs := strip_high _ (digs_low _)
      refine ⟨⟨by rw [hst]; exact hlen, by rw [hst]; exact hl, by rw [hst]; exact digs_isD _, Or.inl (by rw [hst]; exact digs_head _)⟩, ?_⟩
      unfold ival
      rw [hst, digs_low, dval_digs, sgn_false]; omega

theorem canon_lim (l : List UInt8) (h : Canon l) : dval (strip l) < Lim := by
  obtain ⟨_, h2, h3, _⟩ := h
  have := dval_lt (strip l) h3
  unfold Lim
  exact Nat.lt_of_lt_of_le this (Nat.pow_le_pow_right (by decide) h2)
theorem canon_ival (l : List UInt8) (h : Canon l) : (ival l).natAbs < Lim := by unfold ival; rw [sgn_abs]; exact canon_lim l h
/-- A text is its number's. -/
theorem canon_txt (l : List UInt8) (h : Canon l) : txtI (ival l) = l := by
  have hlim := canon_lim l h
  obtain ⟨h1, h2, h3, h4⟩ := h
  unfold ival
  rw [← txt_sgn]
  have htrim := trim_digs (strip l) h3
  rcases h4 with h4 | h4
  · have hdw : (strip l).dropWhile (· == 48) = strip l := by
      cases hs : strip l with
      | nil => rfl
      | cons a m =>
        rw [hs] at h4
        have : a ≠ 48 := by intro e; apply h4; rw [e]; rfl
        simp [this]
    rw [hdw] at htrim
    have h0 : dval (strip l) ≠ 0 := by
      intro e; rw [e, digs_zero] at htrim; rw [htrim] at h1; simp at h1
    unfold txt
    rw [if_neg h0, if_pos hlim, ← htrim]
    cases hb : low l with
    | true =>
      rw [if_pos rfl, strip_low _ hb]
      unfold low at hb
      cases l with
      | nil => simp at hb
      | cons a m => simp at hb; rw [hb]; rfl
    | false => rw [if_neg Bool.false_ne_true, strip_high _ hb]
  · subst h4; rfl
end Go.BigM
namespace Go.Proofs.YtahdiknkcgnieaaDoor
open Go.RowKit Go.BigM
set_option linter.unusedVariables false

theorem ret_int {k : IntKind} {a b : Int} (h : a = b) : Ending.returned (.int k a) = .returned (.int k b) := by rw [h]

theorem within_any (a n : Int) (w : World) (h1 : -9223372036854775808 ≤ a) (h2 : a ≤ 9223372036854775807) (h3 : 1 ≤ n) (h4 : n ≤ 4000000000) :
    Calls Tryd.prog 15 #[.int .i64 a, .int .i64 n] w fun e w' => e = .returned (.int .i64 (a % n)) ∧ w = w' := by
  have hr := Int.emod_nonneg a (show n ≠ 0 by omega)
  have hl := Int.emod_lt_of_pos a (show 0 < n by omega)
  by_cases h : 0 ≤ a
  · have ht := Int.tmod_eq_emod_of_nonneg (b := n) h
    go_enter Tryd.func15, Tryd.ntmps15
    go_wp2
    go_ret
    exact ⟨rfl, rfl⟩
  · by_cases hd : a % n = 0
    · have ht : a.tmod n = 0 := by rw [Int.tmod_eq_emod, if_pos (Or.inr (Int.dvd_of_emod_eq_zero hd))]; omega
      go_enter Tryd.func15, Tryd.ntmps15
      go_wp2
      go_ret
      exact ⟨ret_int (by omega), rfl⟩
    · have ht : a.tmod n = a % n - n := by
        rw [Int.tmod_eq_emod, if_neg]
        · omega
        · rintro (h' | h')
          · exact h h'
          · exact hd (Int.emod_eq_zero_of_dvd h')
      have ht2 : a % n - n < 0 := by omega
      clear hd
      go_enter Tryd.func15, Tryd.ntmps15
      go_wp2
      go_ret
      exact ⟨ret_int (by omega), rfl⟩

theorem within2_any (a n : Int) (w : World) (h1 : -9223372036854775808 ≤ a) (h2 : a ≤ 9223372036854775807) (h3 : 1 ≤ n) (h4 : n ≤ 4000000000) :
    Calls Tryd.prog 53 #[.int .i64 a, .int .i64 n] w fun e w' => e = .returned (.int .i64 (a % n)) ∧ w = w' := by
  have hr := Int.emod_nonneg a (show n ≠ 0 by omega)
  have hl := Int.emod_lt_of_pos a (show 0 < n by omega)
  by_cases h : 0 ≤ a
  · have ht := Int.tmod_eq_emod_of_nonneg (b := n) h
    go_enter Tryd.func53, Tryd.ntmps53
    go_wp2
    go_ret
    exact ⟨rfl, rfl⟩
  · by_cases hd : a % n = 0
    · have ht : a.tmod n = 0 := by rw [Int.tmod_eq_emod, if_pos (Or.inr (Int.dvd_of_emod_eq_zero hd))]; omega
      go_enter Tryd.func53, Tryd.ntmps53
      go_wp2
      go_ret
      exact ⟨ret_int (by omega), rfl⟩
    · have ht : a.tmod n = a % n - n := by
        rw [Int.tmod_eq_emod, if_neg]
        · omega
        · rintro (h' | h')
          · exact h h'
          · exact hd (Int.emod_eq_zero_of_dvd h')
      have ht2 : a % n - n < 0 := by omega
      clear hd
      go_enter Tryd.func53, Tryd.ntmps53
      go_wp2
      go_ret
      exact ⟨ret_int (by omega), rfl⟩

theorem take_snoc (s : ByteArray) (k : Nat) (h : k < s.size) : s.data.toList.take (k + 1) = s.data.toList.take k ++ [s[k]] := by
  rw [List.take_succ_eq_append_getElem (by simpa using h)]; rfl

end Go.Proofs.YtahdiknkcgnieaaDoor
namespace Go.Proofs.YtahdiknkcgnieaaDoor
open Go.RowKit Go.BigM
set_option linter.unusedVariables false
theorem trimByte_any (l : List UInt8) (w : World) (hl : l.length ≤ 8000) :
    Calls Tryd.prog 65 #[.string ⟨l.toArray⟩, .int .u8 48] w fun e w' => e = .returned (.string ⟨(l.dropWhile (· == 48)).toArray⟩) ∧ w = w' := by
  go_enter Tryd.func65, Tryd.ntmps65
  go_wp2
  go_loop [0] (fun v => ∃ m : List UInt8, m.length ≤ l.length ∧ Lib.Kept (m.dropWhile (· == 48) = l.dropWhile (· == 48)) ∧ v = .string ⟨m.toArray⟩) (fun v => Lib.strSize v)
  case atStart => exact ⟨l, Nat.le_refl _, rfl, rfl⟩
  case round =>
    obtain ⟨m, hm, hk, rfl⟩ := hrel
    cases m with
    | nil =>
      have hk' : l.dropWhile (· == 48) = [] := by have := hk; unfold Lib.Kept at this; simpa using this.symm
      have HK := Lib.hid hk'
      clear hk hk'
      go_wp2
      go_ret
      exact ⟨by rw [HK.out]; rfl, rfl⟩
    | cons a m =>
      have hs : (⟨(a :: m).toArray⟩ : ByteArray).size = m.length + 1 := by simp [ByteArray.size]
      have h0 : ∀ h, (⟨(a :: m).toArray⟩ : ByteArray)[0]'h = a := fun h => rfl
      have hx : (⟨(a :: m).toArray⟩ : ByteArray).extract 1 (m.length + 1) = ⟨m.toArray⟩ := by rw [Lib.extract_mk]; simp
      simp only [List.length_cons] at hm
      by_cases ha : a = 48
      · have hk' : Lib.Kept (m.dropWhile (· == 48) = l.dropWhile (· == 48)) := by unfold Lib.Kept at *; rw [← hk, ha]; simp
        clear hk
        subst ha
        go_wp2
        go_round
        case rel => exact ⟨m, by omega, hk', rfl⟩
        case measure => simp [Lib.strSize, ByteArray.size]
      · have hk' : l.dropWhile (· == 48) = a :: m := by have := hk; unfold Lib.Kept at this; rw [← this]; simp [ha]
        have HK := Lib.hid hk'
        clear hk hk'
        have ha1 : ((a.toNat : Int) == 48) = false := by
          have : a.toNat ≠ 48 := fun e => ha (UInt8.toNat_inj.1 (by rw [e]; rfl))
          simp; omega
        clear ha
        go_wp2
        go_ret
        exact ⟨by rw [HK.out]; rfl, rfl⟩

theorem trimByte_str (s : ByteArray) (w : World) (hl : s.size ≤ 8000) :
    Calls Tryd.prog 65 #[.string s, .int .u8 48] w fun e w' => e = .returned (.string ⟨(s.data.toList.dropWhile (· == 48)).toArray⟩) ∧ w = w' :=
  trimByte_any s.data.toList w (by rw [← Lib.size_eq]; exact hl)

set_option maxRecDepth 100000 in
theorem trimLeft_any (s : ByteArray) (w : World) (hl : s.size ≤ 8000) :
    Calls Tryd.prog 59 #[.string s, .string ⟨#[48]⟩] w fun e w' => e = .returned (.string ⟨(s.data.toList.dropWhile (· == 48)).toArray⟩) ∧ w = w' := by
  by_cases h : s.toList.isEmpty = true
  · have hs : s = ⟨#[]⟩ := by
      have : s.toList = [] := by simpa using h
      apply ByteArray.ext
      apply Array.ext'
      simpa [ByteArray.toList_eq] using this
    subst hs
    go_enter Tryd.func59, Tryd.ntmps59
    go_wp2
    go_ret
    exact ⟨rfl, rfl⟩
  · have h1 : s.toList.isEmpty = false := by simpa using h
    clear h
    go_enter Tryd.func59, Tryd.ntmps59
    go_wp2_with (go_at_call 65; refine (trimByte_str s _ hl).mono ?_; rintro e w' ⟨rfl, rfl⟩)
    go_ret
    exact ⟨rfl, rfl⟩
end Go.Proofs.YtahdiknkcgnieaaDoor
namespace Go.Proofs.YtahdiknkcgnieaaDoor
open Go.RowKit Go.BigM
set_option linter.unusedVariables false

theorem hasPre_any (s : ByteArray) (w : World) :
    Calls Tryd.prog 55 #[.string s, .string ⟨#[45]⟩] w fun e w' => e = .returned (.bool (low s.data.toList)) ∧ w = w' := by
  by_cases h : 1 ≤ s.size
  · have h2 : ((s.extract 0 1).toList == [45]) = low s.data.toList := by
      rw [Lib.extract_toList]
      cases hl : s.data.toList with
      | nil => rw [Lib.size_eq, hl] at h; simp at h
      | cons a m => simp [low]
    go_enter Tryd.func55, Tryd.ntmps55
    go_wp2
    go_ret
    exact ⟨rfl, rfl⟩
  · have h2 : low s.data.toList = false := by
      have : s.data.toList = [] := List.length_eq_zero_iff.1 (by rw [← Lib.size_eq]; omega)
      rw [this]; rfl
    have h3 : s.size = 0 := by omega
    rw [h2]
    clear h2
    go_enter Tryd.func55, Tryd.ntmps55
    go_wp2
    go_ret
    exact ⟨rfl, rfl⟩

theorem hasPre_b (s : ByteArray) (b : Bool) (hb : low s.data.toList = b) (w : World) :
    Calls Tryd.prog 55 #[.string s, .string ⟨#[45]⟩] w fun e w' => e = .returned (.bool b) ∧ w = w' := hb ▸ hasPre_any s w

theorem trimPre42 (s : ByteArray) (w : World) (hs : s.size ≤ 8000) :
    Calls Tryd.prog 64 #[.string s, .string ⟨#[45]⟩] w fun e w' => e = .returned (.string ⟨(strip s.data.toList).toArray⟩) ∧ w = w' := by
  cases hb : low s.data.toList with
  | true =>
    have he : (⟨(strip s.data.toList).toArray⟩ : ByteArray) = s.extract 1 s.size := by
      rw [strip_low _ hb, Lib.extract_eq, List.take_of_length_le (by rw [List.length_drop, ← Lib.size_eq]; exact Nat.le_refl _)]; simp
    have h1 : 1 ≤ s.size := by
      rw [Lib.size_eq]; cases hl : s.data.toList with
      | nil => rw [hl] at hb; simp [low] at hb
      | cons a m => simp
    rw [he]
    have H := Lib.hid hb
    clear hb he
    go_enter Tryd.func64, Tryd.ntmps64
    go_wp2_with (go_at_call 55; refine (hasPre_b s true H.out _).mono ?_; rintro e w' ⟨rfl, rfl⟩)
    go_ret
    exact ⟨rfl, rfl⟩
  | false =>
    have he : (⟨(strip s.data.toList).toArray⟩ : ByteArray) = s := by rw [strip_high _ hb, Lib.mk_data]
    rw [he]
    have H := Lib.hid hb
    clear hb he
    go_enter Tryd.func64, Tryd.ntmps64
    go_wp2_with (go_at_call 55; refine (hasPre_b s false H.out _).mono ?_; rintro e w' ⟨rfl, rfl⟩)
    go_ret
    exact ⟨rfl, rfl⟩

theorem trimPre_any (s : ByteArray) (w : World) (hs : s.size ≤ 8000) :
    Calls Tryd.prog 58 #[.string s, .string ⟨#[45]⟩] w fun e w' => e = .returned (.string ⟨(strip s.data.toList).toArray⟩) ∧ w = w' := by
  go_enter Tryd.func58, Tryd.ntmps58
  go_wp2_with (go_at_call 64; refine (trimPre42 s _ hs).mono ?_; rintro e w' ⟨rfl, rfl⟩)
  go_ret
  exact ⟨rfl, rfl⟩
end Go.Proofs.YtahdiknkcgnieaaDoor
namespace Go.Proofs.YtahdiknkcgnieaaDoor
open Go.RowKit Go.BigM
set_option linter.unusedVariables false

theorem trimPre_t (s t : ByteArray) (ht : t.data.toList = strip s.data.toList) (w : World) (hs : s.size ≤ 8000) :
    Calls Tryd.prog 58 #[.string s, .string ⟨#[45]⟩] w fun e w' => e = .returned (.string t) ∧ w = w' := by
  have h : (⟨(strip s.data.toList).toArray⟩ : ByteArray) = t := by rw [← ht, Lib.mk_data]
  rw [← h]; exact trimPre_any s w hs

theorem right_ret (l : List UInt8) (b : Bool) (h : b = true ↔ Canon l) : Ending.returned (.bool b) = .returned (.bool (decide (Canon l))) := by
  congr 2; rw [Bool.eq_iff_iff]; simpa using h

set_option maxRecDepth 100000 in
theorem right_any (s : ByteArray) (w : World) (hs : s.size ≤ 8000) :
    Calls Tryd.prog 49 #[.string s] w fun e w' => e = .returned (.bool (decide (Canon s.data.toList))) ∧ w = w' := by
  obtain ⟨t, ht⟩ : ∃ t : ByteArray, t.data.toList = strip s.data.toList := ⟨⟨(strip s.data.toList).toArray⟩, rfl⟩
  have hts : t.size ≤ 8000 := by have := strip_le s.data.toList; rw [Lib.size_eq, ht]; rw [Lib.size_eq] at hs; omega
  have hlen : (strip s.data.toList).length = t.size := by rw [Lib.size_eq, ht]
  by_cases h0 : t.size = 0
  · have hn : false = true ↔ Canon s.data.toList := by simp [Canon, hlen, h0]
    rw [← right_ret _ _ hn]
    have HT := Lib.hid ht
    clear ht hlen hn
    go_enter Tryd.func49, Tryd.ntmps49
    go_wp2_with (go_at_call 58; refine (trimPre_t s t HT.out _ hs).mono ?_; rintro e w' ⟨rfl, rfl⟩)
    go_ret
    exact ⟨rfl, rfl⟩
  · have h0' : 1 ≤ t.size := by omega
    by_cases h1 : 200 < t.size
    · have hn : false = true ↔ Canon s.data.toList := by simp [Canon, hlen]; intros; omega
      rw [← right_ret _ _ hn]
      have HT := Lib.hid ht
      have e1 : ((t.size : Int) == 0) = false := beq_eq_false_iff_ne.2 (by omega)
      have e2 : decide (200 < (t.size : Int)) = true := by simp; omega
      clear ht hlen hn h0
      go_enter Tryd.func49, Tryd.ntmps49
      go_wp2_with (go_at_call 58; refine (trimPre_t s t HT.out _ hs).mono ?_; rintro e w' ⟨rfl, rfl⟩)
      go_ret
      exact ⟨rfl, rfl⟩
    · have h1' : t.size ≤ 200 := by omega
      have HT := Lib.hid ht
      have HL := Lib.hid hlen
      have e1 : ((t.size : Int) == 0) = false := beq_eq_false_iff_ne.2 (by omega)
      have e2 : decide (200 < (t.size : Int)) = false := by simp; omega
      clear ht hlen h0 h1
      go_enter Tryd.func49, Tryd.ntmps49
      go_wp2_with (go_at_call 58; refine (trimPre_t s t HT.out _ hs).mono ?_; rintro e w' ⟨rfl, rfl⟩)
      go_loop [17] (fun i => ∃ k : Nat, k ≤ t.size ∧ i = .int .i64 k ∧ Hid (∀ c ∈ t.data.toList.take k, isD c)) (fun i => t.size - (intOf i).toNat)
      case atStart => exact ⟨0, Nat.zero_le _, rfl, by intro c hc; simp at hc⟩
      case round =>
        obtain ⟨k, hk, rfl, hd⟩ := hrel
        by_cases hlt : k < t.size
        · have hmem : t[k] ∈ t.data.toList := by simp [ByteArray.getElem_eq_getElem_data]
          by_cases ha : t[k].toNat < 48
          · have hn : false = true ↔ Canon s.data.toList := by
              simp only [Bool.false_eq_true, false_iff]; rintro ⟨_, _, h, _⟩
              have := h _ (by rw [← HT.out]; exact hmem)
              unfold isD at this; omega
            have HR := Lib.hid (right_ret _ _ hn)
            clear hmem hn
            go_wp2
            go_ret
            exact ⟨HR.out, rfl⟩
          · by_cases hb : 57 < t[k].toNat
            · have hn : false = true ↔ Canon s.data.toList := by
                simp only [Bool.false_eq_true, false_iff]; rintro ⟨_, _, h, _⟩
                have := h _ (by rw [← HT.out]; exact hmem)
                unfold isD at this; omega
              have HR := Lib.hid (right_ret _ _ hn)
              have ha' : 48 ≤ t[k].toNat := by omega
              clear hmem hn ha
              go_wp2
              go_ret
              exact ⟨HR.out, rfl⟩
            · have ha' : 48 ≤ t[k].toNat := by omega
              have hb' : t[k].toNat ≤ 57 := by omega
              have hd' : Hid (∀ c ∈ t.data.toList.take (k + 1), isD c) := by
                intro c hc
                rw [take_snoc t k hlt] at hc
                simp only [List.mem_append, List.mem_singleton] at hc
                rcases hc with hc | rfl
                · exact hd c hc
                · exact ⟨ha', hb'⟩
              clear hmem ha hb hd
              go_wp2
              go_round
              case rel => exact ⟨k + 1, by omega, by go_num, hd'⟩
              case measure => simp [intOf]; omega
        · have hk' : k = t.size := by omega
          have hall : ∀ c ∈ strip s.data.toList, isD c := by
            intro c hc; rw [← HT.out] at hc
            exact hd c (by rw [List.take_of_length_le (by rw [← Lib.size_eq]; omega)]; exact hc)
          have hhd : (strip s.data.toList).head? = some t[0] := by
            rw [← HT.out, List.head?_eq_getElem?, List.getElem?_eq_getElem (by rw [← Lib.size_eq]; omega)]; rfl
          by_cases hz : t[0].toNat = 48
          · have hz' : t[0] = 48 := UInt8.toNat_inj.1 (by rw [hz]; rfl)
            have q1 : ((t[0].toNat : Int) != 48) = false := by simp [hz]
            have q2 : (s.toList == [48]) = decide (Canon s.data.toList) := by
              rw [Lib.toList_data, Bool.eq_iff_iff, beq_iff_eq, decide_eq_true_iff]
              constructor
              · intro h; rw [h]; decide
              · rintro ⟨_, _, _, h | h⟩
                · exact absurd (hhd.trans (by rw [hz'])) h
                · exact h
            have HQ := Lib.hid q2
            clear hhd hall hz hz' q2 hd hlt hk
            subst hk'
            go_wp2
            go_ret
            exact ⟨by rw [← HQ.out]; rfl, rfl⟩
          · have q1 : ((t[0].toNat : Int) != 48) = true := by simp; omega
            have q2 : true = true ↔ Canon s.data.toList := by
              simp only [true_iff]
              refine ⟨by rw [HL.out]; exact h0', by rw [HL.out]; exact h1', hall, Or.inl ?_⟩
              rw [hhd]; intro h; injection h with h; exact hz (by rw [h]; rfl)
            have HQ := Lib.hid (right_ret _ _ q2)
            clear hhd hall hz q2 hd hlt hk
            subst hk'
            go_wp2
            go_ret
            exact ⟨HQ.out, rfl⟩
end Go.Proofs.YtahdiknkcgnieaaDoor
namespace Go.Proofs.YtahdiknkcgnieaaDoor
open Go.RowKit Go.BigM
set_option linter.unusedVariables false
set_option linter.unusedSimpArgs false

set_option maxHeartbeats 1000000 in
set_option maxRecDepth 100000 in
theorem idx54 (s : ByteArray) (c : Int) (w : World) :
    Calls Tryd.prog 54 #[.string s, .int .u8 c] w fun e w' => e = .returned (.int .i64 (Lib.indexByte s.data.toList c.toNat.toUInt8)) ∧ w = w' := by
  go_enter Tryd.func54, Tryd.ntmps54
  go_wp2
  rw [run_callFunc_extern Tryd.func62 (by kernel_rfl) (by kernel_rfl) (by kernel_rfl) (e := Extern.BytealgIndexByte.indexByte) (by kernel_rfl), Lib.run_indexByteString]
  simp only [Result.andThen]
  rw [Oper.upon_value]
  go_wp2
  go_ret
  exact ⟨rfl, rfl⟩
theorem idx_any (s : ByteArray) (c : Int) (w : World) :
    Calls Tryd.prog 42 #[.string s, .int .u8 c] w fun e w' => e = .returned (.int .i64 (Lib.indexByte s.data.toList c.toNat.toUInt8)) ∧ w = w' := by
  go_enter Tryd.func42, Tryd.ntmps42
  go_wp2_with (go_at_call 54; refine (idx54 _ _ _).mono ?_; rintro e w' ⟨rfl, rfl⟩)
  go_ret
  exact ⟨rfl, rfl⟩
theorem idx_in : ∀ (l : List UInt8) (c : UInt8), decide (0 ≤ Lib.indexByte l c) = l.contains c
  | [], c => by simp [Lib.indexByte]
  | b :: l, c => by
    have h := Lib.indexByte_ge l c
    have ih := idx_in l c
    unfold Lib.indexByte
    by_cases hb : b = c
    · subst hb; simp
    · have h1 : (b == c) = false := by simpa using hb
      have h2 : (c == b) = false := by rw [beq_eq_false_iff_ne]; exact fun e => hb e.symm
      rw [h1, List.contains_cons, h2, Bool.false_or, ← ih]
      simp only [Bool.false_eq_true, if_false]
      by_cases h3 : Lib.indexByte l c = -1
      · rw [h3]; decide
      · have h4 : (Lib.indexByte l c == -1) = false := by rw [beq_eq_false_iff_ne]; exact h3
        rw [h4]
        simp only [Bool.false_eq_true, if_false, decide_eq_decide]
        omega
/-- Is a byte among those of a set? -/
theorem isin_any (s : ByteArray) (c : UInt8) (b : Bool) (hb : s.data.toList.contains c = b) (w : World) :
    Calls Tryd.prog 42 #[.string s, .int .u8 c.toNat] w fun e w' => ∃ r : Int, e = .returned (.int .i64 r) ∧ decide (0 ≤ r) = b ∧ w = w' := by
  refine (idx_any s c.toNat w).mono ?_
  rintro e w' ⟨rfl, rfl⟩
  refine ⟨_, rfl, ?_, rfl⟩
  rw [idx_in]
  have : ((c.toNat : Int).toNat).toUInt8 = c := by simp
  rw [this]; exact hb

set_option maxHeartbeats 1000000 in
theorem has55 (s p : ByteArray) (w : World) :
    Calls Tryd.prog 55 #[.string s, .string p] w fun e w' => e = .returned (.bool (Lib.hasPrefix s.data.toList p.data.toList)) ∧ w = w' := by
  rw [← Lib.hasPrefix_of_take, ← Lib.size_eq, ← Lib.size_eq]
  go_enter Tryd.func55, Tryd.ntmps55
  go_wp2
  · rename_i h
    go_ret
    refine ⟨?_, rfl⟩
    show Ending.returned (Value.bool ((s.extract 0 p.size).toList == p.toList)) = _
    rw [Lib.extract_toList, Lib.toList_data]
    simp [h]
  · rename_i h
    go_ret
    refine ⟨?_, rfl⟩
    show Ending.returned (Value.bool false) = _
    simp [h]
theorem has_any (s p : ByteArray) (w : World) :
    Calls Tryd.prog 43 #[.string s, .string p] w fun e w' => e = .returned (.bool (Lib.hasPrefix s.data.toList p.data.toList)) ∧ w = w' := by
  go_enter Tryd.func43, Tryd.ntmps43
  go_wp2_with (go_at_call 55; refine (has55 _ _ _).mono ?_; rintro e w' ⟨rfl, rfl⟩)
  go_ret
  exact ⟨rfl, rfl⟩
set_option maxHeartbeats 1000000 in
theorem cut63 (s p : ByteArray) (w : World) :
    Calls Tryd.prog 63 #[.string s, .string p] w fun e w' => e = .returned (.tuple #[.string ⟨(Lib.trimPrefix s.data.toList p.data.toList).toArray⟩, .bool (Lib.hasPrefix s.data.toList p.data.toList)]) ∧ w = w' := by
  cases hb : Lib.hasPrefix s.data.toList p.data.toList with
  | true =>
    have hraw := hb
    rw [← Lib.hasPrefix_raw, Bool.and_eq_true, decide_eq_true_eq] at hraw
    obtain ⟨h1, h2⟩ := hraw
    rw [Lib.trimPrefix_hit s p h1 h2]
    have F := Lib.hid (fun w => hb ▸ has55 s p w)
    clear hb h2
    go_enter Tryd.func63, Tryd.ntmps63
    go_wp2_with (go_at_call 55; refine (F.out _).mono ?_; rintro e w' ⟨rfl, rfl⟩)
    go_ret2
    exact ⟨rfl, rfl⟩
  | false =>
    have hraw := hb
    rw [← Lib.hasPrefix_raw] at hraw
    rw [Lib.trimPrefix_miss s p hraw]
    have F := Lib.hid (fun w => hb ▸ has55 s p w)
    clear hb hraw
    go_enter Tryd.func63, Tryd.ntmps63
    go_wp2_with (go_at_call 55; refine (F.out _).mono ?_; rintro e w' ⟨rfl, rfl⟩)
    go_ret2
    exact ⟨rfl, rfl⟩
theorem cut_any (s p : ByteArray) (w : World) :
    Calls Tryd.prog 56 #[.string s, .string p] w fun e w' => e = .returned (.tuple #[.string ⟨(Lib.trimPrefix s.data.toList p.data.toList).toArray⟩, .bool (Lib.hasPrefix s.data.toList p.data.toList)]) ∧ w = w' := by
  go_enter Tryd.func56, Tryd.ntmps56
  go_wp2_with (go_at_call 63; refine (cut63 _ _ _).mono ?_; rintro e w' ⟨rfl, rfl⟩)
  go_ret2
  exact ⟨rfl, rfl⟩
end Go.Proofs.YtahdiknkcgnieaaDoor
namespace Go.Proofs.YtahdiknkcgnieaaDoor
open Go.RowKit Go.BigM
set_option linter.unusedVariables false
set_option linter.unusedSimpArgs false

/-- How many bytes from the beginning on are of a set. -/
def rowOf (set : List UInt8) (l : List UInt8) : Nat := (l.takeWhile set.contains).length
theorem rowOf_le (set l : List UInt8) : rowOf set l ≤ l.length := by unfold rowOf; exact (List.takeWhile_prefix _).length_le
theorem rowOf_end (set : List UInt8) : ∀ (l : List UInt8) (k : Nat), k ≤ l.length → (∀ i (h : i < l.length), i < k → set.contains l[i] = true) → (∀ h : k < l.length, set.contains l[k] = false) → rowOf set l = k
  | [], k, hk, _, _ => by simp at hk; simp [rowOf, hk]
  | c :: l, 0, _, _, h => by
    have := h (by simp)
    simp only [List.getElem_cons_zero] at this
    unfold rowOf; rw [List.takeWhile_cons, this]; rfl
  | c :: l, k + 1, hk, hin, hout => by
    have h0 := hin 0 (by simp) (by omega)
    simp only [List.getElem_cons_zero] at h0
    have ih := rowOf_end set l k (by simpa using hk) (fun i h1 h2 => by have := hin (i + 1) (by simpa using h1) (by omega); simpa using this) (fun h => by have := hout (by simpa using h); simpa using this)
    unfold rowOf at ih ⊢
    rw [List.takeWhile_cons, if_pos h0, List.length_cons, ih]
def RInv (set s : ByteArray) (iv : Value) (w wr : World) : Prop := ∃ k : Nat, k ≤ s.size ∧ iv = .int .i64 k ∧ (∀ i (h : i < s.size), i < k → set.data.toList.contains s[i] = true) ∧ wr = w
theorem row_any (s set : ByteArray) (w : World) (hs : s.size ≤ 8000) :
    Calls Tryd.prog 45 #[.string s, .string set] w fun e w' => e = .returned (.int .i64 (rowOf set.data.toList s.data.toList)) ∧ w = w' := by
  go_enter Tryd.func45, Tryd.ntmps45
  go_wp2
  go_loopw [5] (fun iv wr => RInv set s iv w wr) (fun iv _ => s.size - (intOf iv).toNat)
  case atStart => exact ⟨0, Nat.zero_le _, rfl, fun i _ h => absurd h (by omega), rfl⟩
  case round =>
    obtain ⟨k, hk, rfl, hin, rfl⟩ := hrel
    have HI := Lib.hid hin
    clear hin
    by_cases hlt : k < s.size
    · have q1 : decide ((k : Int) < (s.size : Int)) = true := decide_eq_true (by omega)
      obtain ⟨b, hb⟩ : ∃ b, set.data.toList.contains s[k] = b := ⟨_, rfl⟩
      have HB := Lib.hid hb
      clear hb
      go_wp2_with fail
      refine (isin_any set s[k] b HB.out _).mono ?_
      rintro e w' ⟨r, rfl, hr, rfl⟩
      cases b with
      | true =>
        go_wp2_with fail
        go_roundw
        case rel => exact ⟨k + 1, by omega, by go_num, fun i h1 h2 => by
          by_cases hik : i = k
          · subst hik; exact HB.out
          · exact HI.out i h1 (by omega), rfl⟩
        case measure => simp [intOf]; omega
      | false =>
        have HE : Hid (rowOf set.data.toList s.data.toList = k) := rowOf_end _ _ _ (by rw [← Lib.size_eq]; exact hk) (fun i h1 h2 => HI.out i (by rw [Lib.size_eq]; exact h1) h2) (fun _ => HB.out)
        go_wp2_with fail
        go_ret
        exact ⟨by rw [HE.out]; rfl, rfl⟩
    · obtain rfl : k = s.size := by omega
      have q1 : decide ((s.size : Int) < (s.size : Int)) = false := decide_eq_false (by omega)
      have HE : Hid (rowOf set.data.toList s.data.toList = s.size) := rowOf_end _ _ _ (by rw [← Lib.size_eq]; exact hk) (fun i h1 h2 => HI.out i (by rw [Lib.size_eq]; exact h1) (by rw [Lib.size_eq]; exact h1)) (fun h => absurd h (by rw [← Lib.size_eq]; omega))
      go_wp2_with fail
      go_ret
      exact ⟨by rw [HE.out]; rfl, rfl⟩

/-- How many bytes from the beginning on do not count; r: within a remark. -/
def gapOf : Bool → List UInt8 → Nat
  | _, [] => 0
  | r, c :: l => if (!(c == 59 || (r && c != 10))) && !([9, 10, 32] : List UInt8).contains c then 0 else 1 + gapOf (c == 59 || (r && c != 10)) l
theorem gapOf_le : ∀ (r : Bool) (l : List UInt8), gapOf r l ≤ l.length
  | _, [] => by simp [gapOf]
  | r, c :: l => by
    unfold gapOf
    split
    · simp
    · have := gapOf_le (c == 59 || (r && c != 10)) l
      simp only [List.length_cons]; omega
/-- Is the walk within a remark, so many bytes on? -/
def remOf (l : List UInt8) : Nat → Bool
  | 0 => false
  | k + 1 => match l[k]? with | some c => c == 59 || (remOf l k && c != 10) | none => false
def GInv (s : ByteArray) (rv iv : Value) (w wr : World) : Prop := ∃ (k : Nat) (r : Bool), k ≤ s.size ∧ iv = .int .i64 k ∧ rv = .bool r ∧ gapOf false s.data.toList = k + gapOf r (s.data.toList.drop k) ∧ wr = w
theorem byte_eq (a b : UInt8) : ((a.toNat : Int) == (b.toNat : Int)) = (a == b) := by
  rw [Bool.eq_iff_iff, beq_iff_eq, beq_iff_eq]
  constructor
  · intro h; exact UInt8.toNat_inj.1 (by omega)
  · rintro rfl; rfl
set_option maxHeartbeats 1000000 in
theorem gap_any (s : ByteArray) (w : World) (hs : s.size ≤ 8000) :
    Calls Tryd.prog 28 #[.string s] w fun e w' => e = .returned (.int .i64 (gapOf false s.data.toList)) ∧ w = w' := by
  go_enter Tryd.func28, Tryd.ntmps28
  go_wp2_with fail
  go_loopw [3, 7] (fun rv iv wr => GInv s rv iv w wr) (fun _ iv _ => s.size - (intOf iv).toNat)
  case atStart => exact ⟨0, false, Nat.zero_le _, rfl, rfl, by simp, rfl⟩
  case round =>
    obtain ⟨k, r, hk, rfl, rfl, hg, rfl⟩ := hrel
    have HG := Lib.hid hg
    clear hg
    by_cases hlt : k < s.size
    · have q1 : decide ((k : Int) < (s.size : Int)) = true := decide_eq_true (by omega)
      have hd : s.data.toList.drop k = s[k] :: s.data.toList.drop (k + 1) := by
        rw [List.drop_eq_getElem_cons (by rw [← Lib.size_eq]; exact hlt)]; rfl
      obtain ⟨c, hc⟩ : ∃ c, s[k] = c := ⟨_, rfl⟩
      rw [hc] at hd
      have b1 := byte_eq c 59
      have b2 := byte_eq c 10
      obtain ⟨e1, he1⟩ : ∃ b, (c == 59) = b := ⟨_, rfl⟩
      obtain ⟨e2, he2⟩ : ∃ b, (c == 10) = b := ⟨_, rfl⟩
      obtain ⟨e3, he3⟩ : ∃ b, ([9, 10, 32] : List UInt8).contains c = b := ⟨_, rfl⟩
      have hgc : gapOf r (s.data.toList.drop k) = if (!(e1 || (r && !e2))) && !e3 then 0 else 1 + gapOf (e1 || (r && !e2)) (s.data.toList.drop (k + 1)) := by
        rw [hd, gapOf, he1, he3, bne, he2]
      have q2 : ((c.toNat : Int) == 59) = e1 := by rw [← he1]; exact b1
      have q3 : ((c.toNat : Int) != 10) = !e2 := by rw [bne, ← he2]; congr 1
      have FI := Lib.hid (fun w => isin_any ⟨#[9, 10, 32]⟩ c e3 he3 w)
      have HGC := Lib.hid hgc
      have HC := Lib.hid hc
      clear hd b1 b2 he1 he2 he3 hgc
      rcases e1 with _ | _ <;> rcases r with _ | _ <;> rcases e2 with _ | _
      · skip
        go_wp2_with fail
        refine (FI.out _).mono ?_
        rintro e w' ⟨r', rfl, hr, rfl⟩
        cases e3 with
        | true =>
          have q5 : decide (r' < 0) = false := by rw [decide_eq_true_eq] at hr; exact decide_eq_false (by omega)
          go_wp2_with fail
          go_roundw
          case rel => exact ⟨k + 1, false, by omega, by go_num, rfl, by rw [HG.out, HGC.out]; simp; omega, rfl⟩
          case measure => simp [intOf]; omega
        | false =>
          have q5 : decide (r' < 0) = true := by rw [decide_eq_false_iff_not] at hr; exact decide_eq_true (by omega)
          have HE : Hid (gapOf false s.data.toList = k) := by show _ = _; rw [HG.out, HGC.out]; simp
          go_wp2_with fail
          go_ret
          exact ⟨by rw [HE.out]; rfl, rfl⟩
      · skip
        go_wp2_with fail
        refine (FI.out _).mono ?_
        rintro e w' ⟨r', rfl, hr, rfl⟩
        cases e3 with
        | true =>
          have q5 : decide (r' < 0) = false := by rw [decide_eq_true_eq] at hr; exact decide_eq_false (by omega)
          go_wp2_with fail
          go_roundw
          case rel => exact ⟨k + 1, false, by omega, by go_num, rfl, by rw [HG.out, HGC.out]; simp; omega, rfl⟩
          case measure => simp [intOf]; omega
        | false =>
          have q5 : decide (r' < 0) = true := by rw [decide_eq_false_iff_not] at hr; exact decide_eq_true (by omega)
          have HE : Hid (gapOf false s.data.toList = k) := by show _ = _; rw [HG.out, HGC.out]; simp
          go_wp2_with fail
          go_ret
          exact ⟨by rw [HE.out]; rfl, rfl⟩
      · skip
        go_wp2_with fail
        go_roundw
        case rel => exact ⟨k + 1, true, by omega, by go_num, rfl, by rw [HG.out, HGC.out]; simp; omega, rfl⟩
        case measure => simp [intOf]; omega
      · skip
        go_wp2_with fail
        refine (FI.out _).mono ?_
        rintro e w' ⟨r', rfl, hr, rfl⟩
        cases e3 with
        | true =>
          have q5 : decide (r' < 0) = false := by rw [decide_eq_true_eq] at hr; exact decide_eq_false (by omega)
          go_wp2_with fail
          go_roundw
          case rel => exact ⟨k + 1, false, by omega, by go_num, rfl, by rw [HG.out, HGC.out]; simp; omega, rfl⟩
          case measure => simp [intOf]; omega
        | false =>
          have q5 : decide (r' < 0) = true := by rw [decide_eq_false_iff_not] at hr; exact decide_eq_true (by omega)
          have HE : Hid (gapOf false s.data.toList = k) := by show _ = _; rw [HG.out, HGC.out]; simp
          go_wp2_with fail
          go_ret
          exact ⟨by rw [HE.out]; rfl, rfl⟩
      · skip
        go_wp2_with fail
        go_roundw
        case rel => exact ⟨k + 1, true, by omega, by go_num, rfl, by rw [HG.out, HGC.out]; simp; omega, rfl⟩
        case measure => simp [intOf]; omega
      · skip
        go_wp2_with fail
        go_roundw
        case rel => exact ⟨k + 1, true, by omega, by go_num, rfl, by rw [HG.out, HGC.out]; simp; omega, rfl⟩
        case measure => simp [intOf]; omega
      · skip
        go_wp2_with fail
        go_roundw
        case rel => exact ⟨k + 1, true, by omega, by go_num, rfl, by rw [HG.out, HGC.out]; simp; omega, rfl⟩
        case measure => simp [intOf]; omega
      · skip
        go_wp2_with fail
        go_roundw
        case rel => exact ⟨k + 1, true, by omega, by go_num, rfl, by rw [HG.out, HGC.out]; simp; omega, rfl⟩
        case measure => simp [intOf]; omega
    · obtain rfl : k = s.size := by omega
      have q1 : decide ((s.size : Int) < (s.size : Int)) = false := decide_eq_false (by omega)
      have HE : Hid (gapOf false s.data.toList = s.size) := by
        show _ = _
        rw [HG.out, List.drop_eq_nil_of_le (by rw [← Lib.size_eq]; exact Nat.le_refl _)]; simp [gapOf]
      go_wp2_with fail
      go_ret
      exact ⟨by rw [HE.out]; rfl, rfl⟩
end Go.Proofs.YtahdiknkcgnieaaDoor
namespace Go.Proofs.YtahdiknkcgnieaaDoor
open Go.RowKit Go.BigM
set_option linter.unusedVariables false
set_option linter.unusedSimpArgs false

section
variable {P : Program} {ops : Array Oper} {Q : Exit → Act → World → Prop} {a : Act} {w : World} {rest : List Oper} {o : Oper}
theorem wpList_wanted (hw : Region.wanted o (yielded ops a.tmps) = true) (h : ∀ K : Act → World → Prop, (∀ a w, wpList P ops Q rest a w → K a w) → o.wp P a w K Q) : wpList P ops Q (o :: rest) a w :=
  wpList_step fun K hK => by rw [if_pos hw]; exact h K hK
theorem wpList_load_wanted (hw : Region.wanted o (yielded ops a.tmps) = true) (ty : TypeId) (x : Operand) (ho : o.op = .load ty x)
    (g : Nat) (hx : a.eval x = .pointer (some ⟨g, 0, none⟩)) (t : TypeId) (cs : Array Value) (fr : Nat × Nat) (d : TypeDesc) (hg : w.heap[g]? = some (.cells cs t fr))
    (hu : P.underlying ty = some d) (hd : (match d with | .struct _ | .array _ _ => true | _ => false) = true) (hi : (P.info? ty).map (·.size) = some cs.size)
    (h : wpList P ops Q rest (a.put o.dst (.agg cs)) w) : wpList P ops Q (o :: rest) a w :=
  wpList_wanted hw fun _ hK => wp_load_row ty x ho g hx t cs fr d hg hu hd hi (hK _ _ h)
end
theorem Below.row {w w' : World} (h : Below w.heap.size w w') {g : Nat} {c : Array Value} {T : TypeId} {fz : Nat × Nat} (hg : w.heap[g]? = some (.cells c T fz)) : w'.heap[g]? = some (.cells c T fz) := by
  rw [h.block g (Array.getElem?_eq_some_iff.1 hg).1]; exact hg

theorem infoB : (Tryd.prog.info? 5).map (fun i => (i.zero, i.size, i.bytes)) = some (some (.int .u8 0), 1, 1) := by kernel_rfl
theorem info_partsB {P : Program} {t : TypeId} {z : Option Value} {s b : Nat} (h : (P.info? t).map (fun i => (i.zero, i.size, i.bytes)) = some (z, s, b)) : ∃ i, P.info? t = some i ∧ i.zero = z ∧ i.size = s ∧ i.bytes = b := by
  cases hi : P.info? t with
  | none => rw [hi] at h; simp at h
  | some i =>
    rw [hi] at h
    simp at h
    exact ⟨i, rfl, h.1, h.2.1, h.2.2⟩
theorem setRow_newB (w : World) (z cs : Array Value) (T : TypeId) : (w.alloc (.cells z T)).setRow w.heap.size cs = w.alloc (.cells cs T) := by
  unfold World.setRow World.alloc
  simp only [World.mk.injEq, and_true]
  apply Array.ext
  · simp
  · intro k h1 h2
    simp only [Array.getElem_modify]
    split
    · rename_i hk; subst hk; simp
    · rename_i hk
      simp only [Array.getElem_push]
      split
      · rfl
      · rename_i h3
        simp at h1
        omega
theorem wp_madeB {o : Oper} {a : Act} {w : World} {K : Act → World → Prop} {Q : Exit → Act → World → Prop} (x y : Operand) (n : Nat) (ho : o.op = .makeSlice 44 x y) (hx : a.eval x = .int .i64 n) (hy : a.eval y = .int .i64 n) (hn : n ≤ 1000000000)
    (h : K (a.put o.dst (.slice (some ⟨w.heap.size, 0, none⟩) n n)) (w.alloc (.cells (madeCells #[.int .u8 0] (n * 1)) 5))) : o.wp Tryd.prog a w K Q := by
  obtain ⟨i, hi, hz, hs, hb⟩ := info_partsB infoB
  have hr := run_make (P := Tryd.prog) w 44 5 i (.int .u8 0) Tryd.underlying44 hi hz .i64 .i64 (n : Int) (n : Int) (by omega) (by omega) (by rw [hb]; omega) (by omega)
  have e : Value.cells (.int .u8 0) = #[.int .u8 0] := rfl
  rw [hs, Int.toNat_natCast, e] at hr
  unfold Oper.wp execOp
  simp only [ho, hx, hy, Sem.run_bind, Sem.run_pure, Result.andThen_ok, hr]
  exact h
theorem run_copy_str (w : World) (sT ty : TypeId) (g cap : Nat) (s : ByteArray) (cur : Array Value) (hg : w.heap[g]? = some (.cells cur 5 (0, 0))) (hfit : cur.size = s.size) :
    (Builtin.copy_ #[44, sT] ty #[.slice (some ⟨g, 0, none⟩) s.size cap, .string s]).run Tryd.prog w = .ok (.int .i64 s.size) (w.setRow g (Lib.strCells s).toArray) := by
  obtain ⟨i, hi, hz, hs, hb⟩ := info_partsB infoB
  have hf := Lib.run_firstCells_string (P := Tryd.prog) w 1 s
  have hst := run_storeCells_at Tryd.prog g 0 5 (Lib.strCells s) 0 cur w hg (by simp [Lib.strCells_length, hfit]) (Lib.strCells_oneCell s)
  have hd : cur.toList.drop s.size = [] := List.drop_eq_nil_of_le (by simp [hfit])
  simp only [Nat.add_zero, Nat.zero_add, Lib.strCells_length, List.take_zero, List.nil_append, hd, List.append_nil] at hst
  simp [Builtin.copy_, run_underlying Tryd.underlying44, Builtin.lenOf, sizeOf, typeInfo, hi, hs, hf, hst, goInt]
theorem wp_copyB {o : Oper} {a : Act} {w : World} {K : Act → World → Prop} {Q : Exit → Act → World → Prop} (x y : Operand) (ho : o.op = .call { callee := .builtin .copy, args := #[x, y], argTypes := #[44, 9] })
    (g cap : Nat) (s : ByteArray) (hx : a.eval x = .slice (some ⟨g, 0, none⟩) s.size cap) (hy : a.eval y = .string s) (cur : Array Value) (hg : w.heap[g]? = some (.cells cur 5 (0, 0))) (hfit : cur.size = s.size)
    (h : K (a.put o.dst (.int .i64 s.size)) (w.setRow g (Lib.strCells s).toArray)) : o.wp Tryd.prog a w K Q := by
  have hr := run_copy_str w 9 o.type g cap s cur hg hfit
  unfold Oper.wp execOp
  simp only [ho, resolve, invoke, builtin, Sem.run_bind, Sem.run_pure, Result.andThen_ok, List.map_toArray, List.map_cons, List.map_nil, hx, hy, hr]
  exact h
theorem wp_usB {o : Oper} {a : Act} {w : World} {K : Act → World → Prop} {Q : Exit → Act → World → Prop} (x y : Operand) (ho : o.op = .call { callee := .builtin .unsafeString, args := #[x, y], argTypes := #[91, 3] })
    (g : Nat) (s : ByteArray) (hx : a.eval x = .pointer (some ⟨g, 0, none⟩)) (hy : a.eval y = .int .i64 s.size) (hg : w.heap[g]? = some (.cells (Lib.strCells s).toArray 5 (0, 0))) (h0 : s.size ≠ 0) (hn : s.size ≤ 1000000000)
    (h : K (a.put o.dst (.string s)) (w.freeze ⟨g, 0, none⟩ s.size)) : o.wp Tryd.prog a w K Q := by
  have hl : s.data.toList.length = s.size := by rw [Array.length_toList]; rfl
  have hr : (Builtin.unsafeString_ #[91, 3] o.type #[.pointer (some ⟨g, 0, none⟩), .int .i64 s.size]).run Tryd.prog w = .ok (.string s) (w.freeze ⟨g, 0, none⟩ s.size) := by
    have := Lib.run_unsafeString_row (P := Tryd.prog) w 91 3 o.type 5 Tryd.underlying91 (by kernel_rfl) g s.size (by simp [World.shape?, hg, Lib.strCells_length]) s.data.toList (by intro e; rw [e] at hl; simp at hl; omega) (by omega) (by omega) (fun j x hx => by
      have e : (⟨g, 0, none⟩ : Addr).add j = ⟨g, j, none⟩ := by unfold Addr.add; split <;> simp_all
      rw [e, Lib.cell_of_heap hg]
      simp [Lib.strCells, hx])
    rw [hl, Lib.mk_data] at this
    exact this
  unfold Oper.wp execOp
  simp only [ho, resolve, invoke, builtin, Sem.run_bind, Sem.run_pure, Result.andThen_ok, List.map_toArray, List.map_cons, List.map_nil, hx, hy, hr]
  exact h

set_option maxHeartbeats 1000000 in
set_option maxRecDepth 100000 in
theorem clone57 (s : ByteArray) (w : World) (hs : s.size ≤ 8000) :
    Calls Tryd.prog 57 #[.string s] w fun e w' => e = .returned (.string s) ∧ Below w.heap.size w w' := by
  by_cases h0 : s.size = 0
  · have he : s = ⟨#[]⟩ := by
      apply ByteArray.ext
      exact Array.eq_empty_of_size_eq_zero h0
    subst he
    go_enter Tryd.func57, Tryd.ntmps57
    go_wp2
    go_ret
    exact ⟨rfl, Below.refl _ _⟩
  · have q0 : ((s.size : Int) == 0) = false := by rw [beq_eq_false_iff_ne]; omega
    have hb := Lib.hid (((Below.refl w.heap.size w).alloc (Nat.le_refl _) (.cells (Lib.strCells s).toArray 5)))
    go_enter Tryd.func57, Tryd.ntmps57
    go_wp2_with (refine wpList_wanted (by rfl) fun K hK => ?_; first
      | (refine wp_madeB (Operand.tmp 8) (Operand.tmp 8) s.size rfl rfl rfl (by omega) (hK _ _ ?_); clear hK K)
      | (refine wp_copyB (Operand.tmp 10) (Operand.tmp 11) rfl w.heap.size s.size s rfl rfl _ (heap_alloc_new w _) (by simp [size_madeCells]) (hK _ _ ?_); clear hK K; rw [setRow_newB])
      | (refine wp_usB (Operand.tmp 14) (Operand.tmp 16) rfl w.heap.size s rfl rfl (heap_alloc_new w _) h0 (by omega) (hK _ _ ?_); clear hK K))


    go_ret
    exact ⟨rfl, Lib.below_freeze hb.out (p := ⟨w.heap.size, 0, none⟩) (Nat.le_refl _) _⟩
theorem clone_any (s : ByteArray) (w : World) (hs : s.size ≤ 8000) :
    Calls Tryd.prog 46 #[.string s] w fun e w' => e = .returned (.string s) ∧ Below w.heap.size w w' := by
  go_enter Tryd.func46, Tryd.ntmps46
  go_wp2_with fail
  refine (clone57 s w hs).mono ?_
  rintro e w' ⟨rfl, hb⟩
  have HB := Lib.hid hb
  clear hb
  go_wp2_with fail
  go_ret
  exact ⟨rfl, HB.out⟩
end Go.Proofs.YtahdiknkcgnieaaDoor
namespace Go.Proofs.YtahdiknkcgnieaaDoor
open Go.RowKit Go.BigM
set_option linter.unusedVariables false
set_option linter.unusedSimpArgs false

def dset : List UInt8 := [48, 49, 50, 51, 52, 53, 54, 55, 56, 57]
def sset : List UInt8 := [97, 98, 99, 100, 101, 102, 103, 104, 105, 106, 107, 108, 109, 110, 111, 112, 113, 114, 115, 116, 117, 118, 119, 120, 121, 122, 48, 49, 50, 51, 52, 53, 54, 55, 56, 57, 33, 63, 42, 60, 62, 61, 43, 45, 47, 46, 95]
/-- Digits, or the sign and digits. -/
def isNum (l : List UInt8) : Bool := decide (0 < (strip l).length) && (rowOf dset (strip l) == (strip l).length)
/-- A numeral's number's text. -/
def numOf (l : List UInt8) : List UInt8 := if (strip l).dropWhile (· == 48) = [] then [48] else if low l then 45 :: (strip l).dropWhile (· == 48) else (strip l).dropWhile (· == 48)

set_option maxRecDepth 100000 in
theorem numeral_any (s : ByteArray) (w : World) (hs : s.size ≤ 8000) :
    Calls Tryd.prog 47 #[.string s] w fun e w' => e = .returned (.bool (isNum s.data.toList)) ∧ w = w' := by
  obtain ⟨T, hT⟩ : ∃ T : ByteArray, T = ⟨(strip s.data.toList).toArray⟩ := ⟨_, rfl⟩
  have hTl : T.data.toList = strip s.data.toList := by rw [hT]
  have hTs : T.size = (strip s.data.toList).length := by rw [Lib.size_eq, hTl]
  have hTz : T.size ≤ 8000 := by have := strip_le s.data.toList; rw [Lib.size_eq] at hs; omega
  have FT := Lib.hid (fun w => hT ▸ trimPre_any s w hs)
  have FR := Lib.hid (fun w => row_any T ⟨dset.toArray⟩ w hTz)
  by_cases h0 : T.size = 0
  · have HE : Hid (isNum s.data.toList = false) := by show _ = _; unfold isNum; rw [← hTs, h0]; rfl
    have q1 : ¬ 0 < T.size := by omega
    clear hT hTl hTs
    go_enter Tryd.func47, Tryd.ntmps47
    go_wp2_with fail
    refine (FT.out _).mono ?_
    rintro e w' ⟨rfl, rfl⟩
    go_wp2_with fail
    go_ret
    exact ⟨by rw [HE.out]; rfl, rfl⟩
  · have HE : Hid (isNum s.data.toList = ((rowOf dset T.data.toList : Int) == (T.size : Int))) := by
      show _ = _
      unfold isNum
      rw [← hTs, decide_eq_true (show 0 < T.size by omega), Bool.true_and, ← hTl, Bool.eq_iff_iff, beq_iff_eq, beq_iff_eq]
      omega
    have q1 : 0 < T.size := by omega
    have e1 : (⟨dset.toArray⟩ : ByteArray).data.toList = dset := rfl
    rw [e1] at FR
    obtain ⟨rn, hrn⟩ : ∃ rn, rn = rowOf dset T.data.toList := ⟨_, rfl⟩
    rw [← hrn] at FR HE
    clear hT hTl hTs e1 hrn
    go_enter Tryd.func47, Tryd.ntmps47
    go_wp2_with fail
    refine (FT.out _).mono ?_
    rintro e w' ⟨rfl, rfl⟩
    go_wp2_with fail
    refine (FR.out _).mono ?_
    rintro e w' ⟨rfl, rfl⟩
    go_wp2_with fail
    go_ret
    exact ⟨by rw [HE.out]; rfl, rfl⟩

set_option maxRecDepth 100000 in
theorem number_any (s : ByteArray) (w : World) (hs : s.size ≤ 8000) (h0 : 0 < s.size) :
    Calls Tryd.prog 48 #[.string s] w fun e w' => e = .returned (.string ⟨(numOf s.data.toList).toArray⟩) ∧ w = w' := by
  obtain ⟨T, hT⟩ : ∃ T : ByteArray, T = ⟨(strip s.data.toList).toArray⟩ := ⟨_, rfl⟩
  have hTl : T.data.toList = strip s.data.toList := by rw [hT]
  have hTz : T.size ≤ 8000 := by have := strip_le s.data.toList; rw [Lib.size_eq] at hs; rw [Lib.size_eq, hTl]; omega
  obtain ⟨D, hD⟩ : ∃ D : ByteArray, D = ⟨(T.data.toList.dropWhile (· == 48)).toArray⟩ := ⟨_, rfl⟩
  have hDl : D.data.toList = (strip s.data.toList).dropWhile (· == 48) := by rw [hD, ← hTl]
  have hDz : D.size ≤ 8000 := by
    have h1 : D.size = (T.data.toList.dropWhile (· == 48)).length := by rw [hD]; simp [ByteArray.size]
    have h2 : (T.data.toList.dropWhile (· == 48)).length ≤ T.data.toList.length := (List.dropWhile_suffix _).length_le
    rw [← Lib.size_eq] at h2
    omega
  have FT := Lib.hid (fun w => hT ▸ trimPre_any s w hs)
  have FD := Lib.hid (fun w => hD ▸ trimLeft_any T w hTz)
  have hl0 : low s.data.toList = ((s[0].toNat : Int) == 45) := by
    have e1 := byte_eq s[0] 45
    unfold low
    rw [List.head?_eq_getElem?, List.getElem?_eq_getElem (by rw [← Lib.size_eq]; exact h0)]
    have e2 : s.data.toList[0]'(by rw [← Lib.size_eq]; exact h0) = s[0] := rfl
    rw [e2]
    have : ((s[0].toNat : Int) == 45) = (s[0] == 45) := e1
    rw [this, Bool.eq_iff_iff, beq_iff_eq, beq_iff_eq]
    simp
  by_cases hd : D.data.toList = []
  · have q0 : (D.toList == []) = true := by rw [Lib.toList_data, hd]; rfl
    have HE : Hid (numOf s.data.toList = [48]) := by show _ = _; unfold numOf; rw [if_pos (by rw [← hDl]; exact hd)]
    clear hT hTl hD hDl hl0 hd
    go_enter Tryd.func48, Tryd.ntmps48
    go_wp2_with fail
    refine (FT.out _).mono ?_
    rintro e w' ⟨rfl, rfl⟩
    go_wp2_with fail
    refine (FD.out _).mono ?_
    rintro e w' ⟨rfl, rfl⟩
    go_wp2_with fail
    go_ret
    exact ⟨by rw [HE.out]; rfl, rfl⟩
  · have q0 : (D.toList == []) = false := by rw [beq_eq_false_iff_ne, Lib.toList_data]; exact hd
    obtain ⟨b, hb⟩ : ∃ b, low s.data.toList = b := ⟨_, rfl⟩
    have q1 : ((s[0].toNat : Int) == 45) = b := by rw [← hl0, hb]
    cases b with
    | true =>
      have HE : Hid ((⟨(numOf s.data.toList).toArray⟩ : ByteArray) = ⟨#[45]⟩ ++ D) := by
        show _ = _
        unfold numOf
        rw [if_neg (by rw [← hDl]; exact hd), if_pos hb, ← hDl]
        apply ByteArray.ext
        apply Array.ext'
        simp [ByteArray.data_append]
      clear hT hTl hD hDl hl0 hd hb
      go_enter Tryd.func48, Tryd.ntmps48
      go_wp2_with fail
      refine (FT.out _).mono ?_
      rintro e w' ⟨rfl, rfl⟩
      go_wp2_with fail
      refine (FD.out _).mono ?_
      rintro e w' ⟨rfl, rfl⟩
      go_wp2_with fail
      go_ret
      exact ⟨by rw [HE.out]; rfl, rfl⟩
    | false =>
      have HE : Hid ((⟨(numOf s.data.toList).toArray⟩ : ByteArray) = D) := by
        show _ = _
        unfold numOf
        rw [if_neg (by rw [← hDl]; exact hd), if_neg (by rw [hb]; decide), ← hDl, Lib.mk_data]
      clear hT hTl hD hDl hl0 hd hb
      go_enter Tryd.func48, Tryd.ntmps48
      go_wp2_with fail
      refine (FT.out _).mono ?_
      rintro e w' ⟨rfl, rfl⟩
      go_wp2_with fail
      refine (FD.out _).mono ?_
      rintro e w' ⟨rfl, rfl⟩
      go_wp2_with fail
      go_ret
      exact ⟨by rw [HE.out]; rfl, rfl⟩
end Go.Proofs.YtahdiknkcgnieaaDoor
namespace Go.Proofs.YtahdiknkcgnieaaDoor
open Go.RowKit Go.BigM
set_option linter.unusedVariables false
set_option linter.unusedSimpArgs false

def Z5 : Array Value := #[.int .i64 0, .string ⟨#[]⟩, .slice none 0 0, .slice none 0 0, .int .i64 0]
theorem info40 : (Tryd.prog.info? 40).map (·.size) = some 5 := by kernel_rfl
theorem alloc_at (w : World) (o : Obj) : (w.alloc o).heap[w.heap.size]? = some o := heap_alloc_new w o
def bAt (l t : List UInt8) : Bool := Lib.hasPrefix l t && (rowOf sset (Lib.trimPrefix l t) == 0)
/-- The #t or #f that a text begins with. -/
def boolOf (l : List UInt8) : Option ByteArray := if bAt l [35, 116] then some ⟨#[35, 116]⟩ else if bAt l [35, 102] then some ⟨#[35, 102]⟩ else none
/-- A datum that is no list, and how long it is there. -/
def tokCells : Option (Int × ByteArray × Nat) → Array Value
  | some (k, t, _) => #[.int .i64 k, .string t, .slice none 0 0, .slice none 0 0, .int .i64 0]
  | none => Z5
def tokLong : Option (Int × ByteArray × Nat) → Nat
  | some (_, _, n) => n
  | none => 0
def RetTok (r : Option (Int × ByteArray × Nat)) (w : World) (e : Ending) (w' : World) : Prop := e = .returned (.tuple #[.agg (tokCells r), .int .i64 (tokLong r)]) ∧ Below w.heap.size w w'
theorem below_setRowB {B : Nat} {v w : World} (h : Below B v w) (g : Nat) (cs : Array Value) (hg : B ≤ g) : Below B v (w.setRow g cs) := by
  refine ⟨h.os, h.tape, h.output, by simpa [World.setRow] using h.size, fun k hk => ?_⟩
  rw [← h.block k hk]
  unfold World.setRow
  simp only [Array.getElem?_modify]
  rw [if_neg (by omega)]
theorem results_row2 {P : Program} {fn : Func} {p u : Tmp} {ty : TypeId} (h : fn.results = #[.cell p ty, .tmp u]) (tmps : Array Value) (w : World) (g : Nat) (t : TypeId) (cs : Array Value) (fr : Nat × Nat) (d : TypeDesc) (r : Value)
    (hp : tmps.getD p undef = .pointer (some ⟨g, 0, none⟩)) (hg : w.heap[g]? = some (.cells cs t fr))
    (hu : P.underlying ty = some d) (hd : (match d with | .struct _ | .array _ _ => true | _ => false) = true) (hi : (P.info? ty).map (·.size) = some cs.size) (hr : tmps.getD u undef = r) :
    (results fn tmps).run P w = .ok (.tuple #[.agg cs, r]) w := by
  rw [results_cell_tmp h, hp, hr]
  simp [asAddr, run_loadVar_row w g t ty cs fr d hg hu hd hi]
theorem idx86_0 (a b : ByteArray) (w : World) : (Instr.index 86 (.agg #[.string a, .string b]) (.int .i64 0)).run Tryd.prog w = .ok (.string a) w := by kernel_rfl
theorem idx86_1 (a b : ByteArray) (w : World) : (Instr.index 86 (.agg #[.string a, .string b]) (.int .i64 1)).run Tryd.prog w = .ok (.string b) w := by kernel_rfl
def BoInv (l : List UInt8) (W iw : World) (iv : Value) : Prop := iw = W ∧ ((iv = .int .i64 0) ∨ (iv = .int .i64 1 ∧ bAt l [35, 116] = false) ∨ (iv = .int .i64 2 ∧ bAt l [35, 116] = false ∧ bAt l [35, 102] = false))

set_option maxHeartbeats 4000000 in
set_option maxRecDepth 100000 in
theorem boolean_any (s : ByteArray) (w : World) (hs : s.size ≤ 8000) :
    Calls Tryd.prog 44 #[.string s] w (RetTok ((boolOf s.data.toList).map (fun t => (2, t, 2))) w) := by
  have hW := alloc_at w (.cells Z5 40)
  have hB : Below w.heap.size w (w.alloc (.cells Z5 40)) := (Below.refl _ _).alloc (Nat.le_refl _) _
  have cut : ∀ (t : ByteArray), ∃ T : ByteArray, T.size ≤ 8000 ∧ T.data.toList = Lib.trimPrefix s.data.toList t.data.toList ∧ ∀ w, Calls Tryd.prog 56 #[.string s, .string t] w fun e w' => e = .returned (.tuple #[.string T, .bool (Lib.hasPrefix s.data.toList t.data.toList)]) ∧ w = w' := by
    intro t
    refine ⟨⟨(Lib.trimPrefix s.data.toList t.data.toList).toArray⟩, ?_, rfl, fun w => cut_any s t w⟩
    have h1 : (Lib.trimPrefix s.data.toList t.data.toList).length ≤ s.data.toList.length := by
      unfold Lib.trimPrefix
      split
      · simp
      · exact Nat.le_refl _
    rw [← Lib.size_eq] at h1
    simp only [ByteArray.size, List.size_toArray]
    simp only [ByteArray.size] at hs h1
    omega
  obtain ⟨T1, hz1, hl1, FC1⟩ := cut ⟨#[35, 116]⟩
  obtain ⟨T2, hz2, hl2, FC2⟩ := cut ⟨#[35, 102]⟩
  have FC1 := Lib.hid FC1
  have FC2 := Lib.hid FC2
  have FR1 := Lib.hid (fun w => row_any T1 ⟨sset.toArray⟩ w hz1)
  have FR2 := Lib.hid (fun w => row_any T2 ⟨sset.toArray⟩ w hz2)
  have a1 : bAt s.data.toList [35, 116] = (Lib.hasPrefix s.data.toList [35, 116] && (rowOf sset T1.data.toList == 0)) := by unfold bAt; rw [hl1]
  have a2 : bAt s.data.toList [35, 102] = (Lib.hasPrefix s.data.toList [35, 102] && (rowOf sset T2.data.toList == 0)) := by unfold bAt; rw [hl2]
  change Hid (∀ w, Calls Tryd.prog 56 #[.string s, .string ⟨#[35, 116]⟩] w fun e w' => e = .returned (.tuple #[.string T1, .bool (Lib.hasPrefix s.data.toList [35, 116])]) ∧ w = w') at FC1
  change Hid (∀ w, Calls Tryd.prog 56 #[.string s, .string ⟨#[35, 102]⟩] w fun e w' => e = .returned (.tuple #[.string T2, .bool (Lib.hasPrefix s.data.toList [35, 102])]) ∧ w = w') at FC2
  change Hid (∀ w, Calls Tryd.prog 45 #[.string T1, .string ⟨sset.toArray⟩] w fun e w' => e = .returned (.int .i64 (rowOf sset T1.data.toList)) ∧ w = w') at FR1
  change Hid (∀ w, Calls Tryd.prog 45 #[.string T2, .string ⟨sset.toArray⟩] w fun e w' => e = .returned (.int .i64 (rowOf sset T2.data.toList)) ∧ w = w') at FR2
  obtain ⟨p1, hp1⟩ : ∃ p, p = Lib.hasPrefix s.data.toList [35, 116] := ⟨_, rfl⟩
  obtain ⟨p2, hp2⟩ : ∃ p, p = Lib.hasPrefix s.data.toList [35, 102] := ⟨_, rfl⟩
  obtain ⟨r1, hr1⟩ : ∃ p, p = rowOf sset T1.data.toList := ⟨_, rfl⟩
  obtain ⟨r2, hr2⟩ : ∃ p, p = rowOf sset T2.data.toList := ⟨_, rfl⟩
  rw [← hp1] at FC1 a1
  rw [← hp2] at FC2 a2
  rw [← hr1] at FR1 a1
  rw [← hr2] at FR2 a2
  have A1 := Lib.hid a1
  have A2 := Lib.hid a2
  clear cut hl1 hl2 hz1 hz2 a1 a2 hp1 hp2 hr1 hr2
  go_enter Tryd.func44, Tryd.ntmps44
  go_wp2_with fail
  change Code.wp Tryd.prog _ _ _ (w.alloc (.cells Z5 40))
  generalize w.alloc (.cells Z5 40) = W at hW hB ⊢
  have HW := Lib.hid hW
  have HB := Lib.hid hB
  clear hW hB
  go_loopw [9] (fun iv wr => BoInv s.data.toList W wr iv) (fun iv _ => 2 - (intOf iv).toNat)
  case atStart => exact ⟨rfl, .inl rfl⟩
  case round =>
    obtain ⟨rfl, hrel⟩ := hrel
    rcases hrel with rfl | ⟨rfl, hf1⟩ | ⟨rfl, hf1, hf2⟩
    · have hI := idx86_0 ⟨#[35, 116]⟩ ⟨#[35, 102]⟩ wr
      go_wp2_with fail
      clear hI
      refine (FC1.out _).mono ?_
      rintro e w' ⟨rfl, rfl⟩
      cases p1 with
      | false =>
        go_wp2_with fail
        go_roundw
        case rel => exact ⟨rfl, .inr (.inl ⟨by go_num, by rw [A1.out]; simp⟩)⟩
        case measure => simp [intOf]
      | true =>
        go_wp2_with fail
        refine (FR1.out _).mono ?_
        rintro e w' ⟨rfl, rfl⟩
        by_cases hr : r1 = 0
        · have q : ((r1 : Int) == 0) = true := by rw [beq_iff_eq]; omega
          have z1 : (#[.int .i64 2, .string ⟨#[35, 116]⟩, .slice none 0 0, .slice none 0 0, .int .i64 0] : Array Value).all (·.oneCell') = true := by simp [Value.oneCell']
          have HE : Hid (boolOf s.data.toList = some ⟨#[35, 116]⟩) := by show _ = _; unfold boolOf; rw [A1.out, hr]; simp
          have HX := Lib.hid (setRow_heap wr w.heap.size _ #[.int .i64 2, .string ⟨#[35, 116]⟩, .slice none 0 0, .slice none 0 0, .int .i64 0] 40 _ HW.out)
          clear hr
          go_wp2_with (refine wpList_store_row rfl 40 _ _ rfl w.heap.size #[.int .i64 2, .string ⟨#[35, 116]⟩, .slice none 0 0, .slice none 0 0, .int .i64 0] rfl rfl 40 Z5 HW.out info40 rfl z1 ?_)
          refine bodyPost_ret (results_row2 rfl _ _ w.heap.size 40 #[.int .i64 2, .string ⟨#[35, 116]⟩, .slice none 0 0, .slice none 0 0, .int .i64 0] (0, 0) _ (.int .i64 2) rfl HX.out Tryd.underlying40 rfl info40 rfl) rfl ?_
          exact ⟨by rw [HE.out]; rfl, below_setRowB HB.out _ _ (Nat.le_refl _)⟩
        · have q : ((r1 : Int) == 0) = false := by rw [beq_eq_false_iff_ne]; omega
          have q2 : (r1 == 0) = false := by rw [beq_eq_false_iff_ne]; omega
          clear hr
          go_wp2_with fail
          go_roundw
          case rel => exact ⟨rfl, .inr (.inl ⟨by go_num, by rw [A1.out]; simp [q2]⟩)⟩
          case measure => simp [intOf]
    · have hI := idx86_1 ⟨#[35, 116]⟩ ⟨#[35, 102]⟩ wr
      go_wp2_with fail
      clear hI
      refine (FC2.out _).mono ?_
      rintro e w' ⟨rfl, rfl⟩
      cases p2 with
      | false =>
        go_wp2_with fail
        go_roundw
        case rel => exact ⟨rfl, .inr (.inr ⟨by go_num, hf1, by rw [A2.out]; simp⟩)⟩
        case measure => simp [intOf]
      | true =>
        go_wp2_with fail
        refine (FR2.out _).mono ?_
        rintro e w' ⟨rfl, rfl⟩
        by_cases hr : r2 = 0
        · have q : ((r2 : Int) == 0) = true := by rw [beq_iff_eq]; omega
          have z1 : (#[.int .i64 2, .string ⟨#[35, 102]⟩, .slice none 0 0, .slice none 0 0, .int .i64 0] : Array Value).all (·.oneCell') = true := by simp [Value.oneCell']
          have HE : Hid (boolOf s.data.toList = some ⟨#[35, 102]⟩) := by show _ = _; unfold boolOf; rw [A2.out, hr]; simp [hf1]
          have HX := Lib.hid (setRow_heap wr w.heap.size _ #[.int .i64 2, .string ⟨#[35, 102]⟩, .slice none 0 0, .slice none 0 0, .int .i64 0] 40 _ HW.out)
          clear hr
          go_wp2_with (refine wpList_store_row rfl 40 _ _ rfl w.heap.size #[.int .i64 2, .string ⟨#[35, 102]⟩, .slice none 0 0, .slice none 0 0, .int .i64 0] rfl rfl 40 Z5 HW.out info40 rfl z1 ?_)
          refine bodyPost_ret (results_row2 rfl _ _ w.heap.size 40 #[.int .i64 2, .string ⟨#[35, 102]⟩, .slice none 0 0, .slice none 0 0, .int .i64 0] (0, 0) _ (.int .i64 2) rfl HX.out Tryd.underlying40 rfl info40 rfl) rfl ?_
          exact ⟨by rw [HE.out]; rfl, below_setRowB HB.out _ _ (Nat.le_refl _)⟩
        · have q : ((r2 : Int) == 0) = false := by rw [beq_eq_false_iff_ne]; omega
          have q2 : (r2 == 0) = false := by rw [beq_eq_false_iff_ne]; omega
          clear hr
          go_wp2_with fail
          go_roundw
          case rel => exact ⟨rfl, .inr (.inr ⟨by go_num, hf1, by rw [A2.out]; simp [q2]⟩)⟩
          case measure => simp [intOf]
    · have z1 : Z5.all (·.oneCell') = true := by simp [Z5, Value.oneCell']
      have HE : Hid (boolOf s.data.toList = none) := by show _ = _; unfold boolOf; simp [hf1, hf2]
      have HX := Lib.hid (setRow_heap wr w.heap.size _ Z5 40 _ HW.out)
      go_wp2_with (refine wpList_store_row rfl 40 _ _ rfl w.heap.size Z5 rfl rfl 40 Z5 HW.out info40 rfl z1 ?_)
      refine bodyPost_ret (results_row2 rfl _ _ w.heap.size 40 Z5 (0, 0) _ (.int .i64 0) rfl HX.out Tryd.underlying40 rfl info40 rfl) rfl ?_
      exact ⟨by rw [HE.out]; rfl, below_setRowB HB.out _ _ (Nat.le_refl _)⟩
end Go.Proofs.YtahdiknkcgnieaaDoor
namespace Go.Proofs.YtahdiknkcgnieaaDoor
open Go.RowKit Go.BigM
set_option linter.unusedVariables false
set_option linter.unusedSimpArgs false

/-- The datum, no list, that a text begins with. -/
def tokOf (l : List UInt8) : Option (Int × ByteArray × Nat) :=
  if Lib.hasPrefix l [35] then (boolOf l).map (fun t => (2, t, 2))
  else if rowOf sset l = 0 then none
  else if isNum (l.take (rowOf sset l)) then (if Canon (numOf (l.take (rowOf sset l))) then some (1, ⟨(numOf (l.take (rowOf sset l))).toArray⟩, rowOf sset l) else none)
  else if 0 < rowOf dset (l.take (rowOf sset l)) then none
  else some (3, ⟨(l.take (rowOf sset l)).toArray⟩, rowOf sset l)
theorem tok_cells (r : Option (Int × ByteArray × Nat)) : ∃ k t, tokCells r = #[.int .i64 k, .string t, .slice none 0 0, .slice none 0 0, .int .i64 0] := by
  rcases r with _ | ⟨k, t, n⟩
  · exact ⟨_, _, rfl⟩
  · exact ⟨_, _, rfl⟩
theorem rowB {w w' : World} (h : Below w.heap.size w w') {g : Nat} {c : Array Value} {T : TypeId} {fz : Nat × Nat} (hg : w.heap[g]? = some (.cells c T fz)) : w'.heap[g]? = some (.cells c T fz) := by
  rw [h.block g (Array.getElem?_eq_some_iff.1 hg).1]; exact hg

set_option maxHeartbeats 4000000 in
set_option maxRecDepth 100000 in
theorem token_any (s : ByteArray) (w : World) (hs : s.size ≤ 8000) : Calls Tryd.prog 33 #[.string s] w (RetTok (tokOf s.data.toList) w) := by
  have hW := alloc_at w (.cells Z5 40)
  have hB : Below w.heap.size w (w.alloc (.cells Z5 40)) := (Below.refl _ _).alloc (Nat.le_refl _) _
  have FH0 := fun w => has_any s ⟨#[35]⟩ w
  obtain ⟨b, hb⟩ : ∃ b, b = Lib.hasPrefix s.data.toList [35] := ⟨_, rfl⟩
  have FH : Hid (∀ w, Calls Tryd.prog 43 #[.string s, .string ⟨#[35]⟩] w fun e w' => e = .returned (.bool b) ∧ w = w') := by rw [hb]; exact FH0
  clear FH0
  have HBB := Lib.hid hb
  clear hb
  go_enter Tryd.func33, Tryd.ntmps33
  go_wp2_with fail
  change Calls Tryd.prog 43 _ (w.alloc (.cells Z5 40)) _
  have hsz : w.heap.size < (w.alloc (.cells Z5 40)).heap.size := by simp
  generalize w.alloc (.cells Z5 40) = W at hW hB hsz ⊢
  have HW := Lib.hid hW
  have HB := Lib.hid hB
  clear hW hB
  refine (FH.out _).mono ?_
  rintro e w' ⟨rfl, rfl⟩
  cases b with
  | true =>
    have HE : Hid (tokOf s.data.toList = (boolOf s.data.toList).map (fun t => (2, t, 2))) := by show _ = _; unfold tokOf; rw [← HBB.out, if_pos rfl]
    go_wp2_with fail
    refine (boolean_any s _ hs).mono ?_
    rintro e w2 ⟨rfl, hb2⟩
    obtain ⟨kk, tt, htc⟩ := tok_cells ((boolOf s.data.toList).map (fun t => ((2 : Int), t, 2)))
    rw [htc]
    have z1 : (#[.int .i64 kk, .string tt, .slice none 0 0, .slice none 0 0, .int .i64 0] : Array Value).all (·.oneCell') = true := by simp [Value.oneCell']
    have H2 := rowB hb2 HW.out
    have HX := Lib.hid (setRow_heap w2 w.heap.size _ #[.int .i64 kk, .string tt, .slice none 0 0, .slice none 0 0, .int .i64 0] 40 _ H2)
    have HB2 := Lib.hid (below_setRowB (HB.out.trans (hb2.mono HB.out.size)) w.heap.size #[.int .i64 kk, .string tt, .slice none 0 0, .slice none 0 0, .int .i64 0] (Nat.le_refl _))
    have H2 := Lib.hid H2
    have HTC := Lib.hid htc
    obtain ⟨ln, hln⟩ : ∃ ln, ln = tokLong ((boolOf s.data.toList).map (fun t => ((2 : Int), t, 2))) := ⟨_, rfl⟩
    rw [← hln]
    have HLN := Lib.hid hln
    clear hb2 htc hln
    go_wp2_with (refine wpList_store_row rfl 40 _ _ rfl w.heap.size #[.int .i64 kk, .string tt, .slice none 0 0, .slice none 0 0, .int .i64 0] rfl rfl 40 Z5 H2.out info40 rfl z1 ?_)
    refine bodyPost_ret (results_row2 rfl _ _ w.heap.size 40 #[.int .i64 kk, .string tt, .slice none 0 0, .slice none 0 0, .int .i64 0] (0, 0) _ (.int .i64 ln) rfl HX.out Tryd.underlying40 rfl info40 rfl) rfl ?_
    exact ⟨by rw [HE.out, HTC.out, HLN.out], HB2.out⟩
  | false =>
    have e1 : (⟨sset.toArray⟩ : ByteArray).data.toList = sset := rfl
    have FR0 := fun w => row_any s ⟨sset.toArray⟩ w hs
    rw [e1] at FR0
    have hrl := rowOf_le sset s.data.toList
    obtain ⟨n, hn⟩ : ∃ n, n = rowOf sset s.data.toList := ⟨_, rfl⟩
    rw [← hn] at FR0 hrl
    have hns : n ≤ s.size := by rw [Lib.size_eq]; exact hrl
    have FR := Lib.hid FR0
    obtain ⟨X, hX⟩ : ∃ X, X = s.extract 0 n := ⟨_, rfl⟩
    have hXl : X.data.toList = s.data.toList.take n := by rw [hX, Lib.extract_eq]; simp
    have hXs : X.size = n := by rw [Lib.size_eq, hXl, List.length_take]; omega
    have HXE := Lib.hid hX
    have hXz : X.size ≤ 8000 := by omega
    have HE0 : Hid (tokOf s.data.toList = if n = 0 then none else if isNum X.data.toList then (if Canon (numOf X.data.toList) then some (1, ⟨(numOf X.data.toList).toArray⟩, n) else none) else if 0 < rowOf dset X.data.toList then none else some (3, X, n)) := by
      show _ = _
      unfold tokOf
      rw [← HBB.out, if_neg (by decide), ← hn, ← hXl, Lib.mk_data]
    clear hn hrl FR0 e1 hX hXl
    go_wp2_with fail
    refine (FR.out _).mono ?_
    rintro e w' ⟨rfl, rfl⟩
    go_wp2_with fail
    rw [← HXE.out]
    refine (clone_any X _ hXz).mono ?_
    rintro e w2 ⟨rfl, hb2⟩
    have H2 := Lib.hid (rowB hb2 HW.out)
    have HB2 := Lib.hid (HB.out.trans (hb2.mono HB.out.size))
    clear hb2 HW
    have zz : Z5.all (·.oneCell') = true := by simp [Z5, Value.oneCell']
    have HXZ := Lib.hid (setRow_heap w2 w.heap.size _ Z5 40 _ H2.out)
    by_cases h0 : n = 0
    · have q : ((n : Int) == 0) = true := by rw [beq_iff_eq]; omega
      have HE : Hid (tokOf s.data.toList = none) := by show _ = _; rw [HE0.out, if_pos h0]
      clear hXs HE0
      go_wp2_with (refine wpList_store_row rfl 40 _ _ rfl w.heap.size Z5 rfl rfl 40 Z5 H2.out info40 rfl zz ?_)
      refine bodyPost_ret (results_row2 rfl _ _ w.heap.size 40 Z5 (0, 0) _ (.int .i64 0) rfl HXZ.out Tryd.underlying40 rfl info40 rfl) rfl ?_
      exact ⟨by rw [HE.out]; rfl, below_setRowB HB2.out _ _ (Nat.le_refl _)⟩
    · have q : ((n : Int) == 0) = false := by rw [beq_eq_false_iff_ne]; omega
      have hX0 : 0 < X.size := by omega
      obtain ⟨bn, hbn⟩ : ∃ b, b = isNum X.data.toList := ⟨_, rfl⟩
      have FN : Hid (∀ w, Calls Tryd.prog 47 #[.string X] w fun e w' => e = .returned (.bool bn) ∧ w = w') := by rw [hbn]; exact fun w => numeral_any X w hXz
      have HE1 := HE0.out
      rw [if_neg h0, ← hbn] at HE1
      replace HE1 := Lib.hid HE1
      clear hbn hXs HE0
      cases bn with
      | true =>
        obtain ⟨Y, hY⟩ : ∃ Y : ByteArray, Y = ⟨(numOf X.data.toList).toArray⟩ := ⟨_, rfl⟩
        have hYl : Y.data.toList = numOf X.data.toList := by rw [hY]
        have hYz : Y.size ≤ 8000 := by
          have h1 : (numOf X.data.toList).length ≤ X.data.toList.length := by
            unfold numOf
            have h2 : ((strip X.data.toList).dropWhile (· == 48)).length ≤ (strip X.data.toList).length := (List.dropWhile_suffix _).length_le
            have h3 := strip_le X.data.toList
            have hxl : 0 < X.data.toList.length := by rw [← Lib.size_eq]; exact hX0
            split
            · simp; omega
            · split
              · rename_i hlow
                rw [strip_low _ hlow] at h2 ⊢
                simp only [List.length_cons]
                have : X.data.toList.tail.length = X.data.toList.length - 1 := by simp
                omega
              · omega
          rw [Lib.size_eq, hYl]
          rw [Lib.size_eq] at hXz
          omega
        have FM : Hid (∀ w, Calls Tryd.prog 48 #[.string X] w fun e w' => e = .returned (.string Y) ∧ w = w') := by rw [hY]; exact fun w => number_any X w hXz hX0
        obtain ⟨bc, hbc⟩ : ∃ b, b = decide (Canon Y.data.toList) := ⟨_, rfl⟩
        have FC : Hid (∀ w, Calls Tryd.prog 49 #[.string Y] w fun e w' => e = .returned (.bool bc) ∧ w = w') := by rw [hbc]; exact fun w => right_any Y w hYz
        have HE2 := HE1.out
        rw [if_pos rfl, ← hYl, Lib.mk_data] at HE2
        replace HE2 := Lib.hid HE2
        have HBC := Lib.hid hbc
        clear hbc hY hYl HE1
        cases bc with
        | true =>
          have hcan : Canon Y.data.toList := of_decide_eq_true HBC.out.symm
          have HE : Hid (tokOf s.data.toList = some (1, Y, n)) := by show _ = _; rw [HE2.out, if_pos hcan]
          have z1 : (#[.int .i64 1, .string Y, .slice none 0 0, .slice none 0 0, .int .i64 0] : Array Value).all (·.oneCell') = true := by simp [Value.oneCell']
          have HX := Lib.hid (setRow_heap w2 w.heap.size _ #[.int .i64 1, .string Y, .slice none 0 0, .slice none 0 0, .int .i64 0] 40 _ H2.out)
          clear hcan HE2
          go_wp2_with fail
          refine (FN.out _).mono ?_
          rintro e w' ⟨rfl, rfl⟩
          go_wp2_with fail
          refine (FM.out _).mono ?_
          rintro e w' ⟨rfl, rfl⟩
          go_wp2_with fail
          refine (FC.out _).mono ?_
          rintro e w' ⟨rfl, rfl⟩
          go_wp2_with (refine wpList_store_row rfl 40 _ _ rfl w.heap.size #[.int .i64 1, .string Y, .slice none 0 0, .slice none 0 0, .int .i64 0] rfl rfl 40 Z5 H2.out info40 rfl z1 ?_)
          refine bodyPost_ret (results_row2 rfl _ _ w.heap.size 40 #[.int .i64 1, .string Y, .slice none 0 0, .slice none 0 0, .int .i64 0] (0, 0) _ (.int .i64 n) rfl HX.out Tryd.underlying40 rfl info40 rfl) rfl ?_
          exact ⟨by rw [HE.out]; rfl, below_setRowB HB2.out _ _ (Nat.le_refl _)⟩
        | false =>
          have hcan : ¬ Canon Y.data.toList := of_decide_eq_false HBC.out.symm
          have HE : Hid (tokOf s.data.toList = none) := by show _ = _; rw [HE2.out, if_neg hcan]
          clear hcan HE2
          go_wp2_with fail
          refine (FN.out _).mono ?_
          rintro e w' ⟨rfl, rfl⟩
          go_wp2_with fail
          refine (FM.out _).mono ?_
          rintro e w' ⟨rfl, rfl⟩
          go_wp2_with fail
          refine (FC.out _).mono ?_
          rintro e w' ⟨rfl, rfl⟩
          go_wp2_with (refine wpList_store_row rfl 40 _ _ rfl w.heap.size Z5 rfl rfl 40 Z5 H2.out info40 rfl zz ?_)
          refine bodyPost_ret (results_row2 rfl _ _ w.heap.size 40 Z5 (0, 0) _ (.int .i64 0) rfl HXZ.out Tryd.underlying40 rfl info40 rfl) rfl ?_
          exact ⟨by rw [HE.out]; rfl, below_setRowB HB2.out _ _ (Nat.le_refl _)⟩
      | false =>
        have e1 : (⟨dset.toArray⟩ : ByteArray).data.toList = dset := rfl
        have FR0 := fun w => row_any X ⟨dset.toArray⟩ w hXz
        rw [e1] at FR0
        obtain ⟨m, hm⟩ : ∃ m, m = rowOf dset X.data.toList := ⟨_, rfl⟩
        rw [← hm] at FR0
        have FD := Lib.hid FR0
        have HE2 := HE1.out
        rw [if_neg (by decide), ← hm] at HE2
        replace HE2 := Lib.hid HE2
        clear hm FR0 e1 HE1
        by_cases hm0 : 0 < m
        · have HE : Hid (tokOf s.data.toList = none) := by show _ = _; rw [HE2.out, if_pos hm0]
          clear HE2
          go_wp2_with fail
          refine (FN.out _).mono ?_
          rintro e w' ⟨rfl, rfl⟩
          go_wp2_with fail
          refine (FD.out _).mono ?_
          rintro e w' ⟨rfl, rfl⟩
          go_wp2_with (refine wpList_store_row rfl 40 _ _ rfl w.heap.size Z5 rfl rfl 40 Z5 H2.out info40 rfl zz ?_)
          refine bodyPost_ret (results_row2 rfl _ _ w.heap.size 40 Z5 (0, 0) _ (.int .i64 0) rfl HXZ.out Tryd.underlying40 rfl info40 rfl) rfl ?_
          exact ⟨by rw [HE.out]; rfl, below_setRowB HB2.out _ _ (Nat.le_refl _)⟩
        · have HE : Hid (tokOf s.data.toList = some (3, X, n)) := by show _ = _; rw [HE2.out, if_neg hm0]
          have z1 : (#[.int .i64 3, .string X, .slice none 0 0, .slice none 0 0, .int .i64 0] : Array Value).all (·.oneCell') = true := by simp [Value.oneCell']
          have HX := Lib.hid (setRow_heap w2 w.heap.size _ #[.int .i64 3, .string X, .slice none 0 0, .slice none 0 0, .int .i64 0] 40 _ H2.out)
          clear HE2
          go_wp2_with fail
          refine (FN.out _).mono ?_
          rintro e w' ⟨rfl, rfl⟩
          go_wp2_with fail
          refine (FD.out _).mono ?_
          rintro e w' ⟨rfl, rfl⟩
          go_wp2_with (refine wpList_store_row rfl 40 _ _ rfl w.heap.size #[.int .i64 3, .string X, .slice none 0 0, .slice none 0 0, .int .i64 0] rfl rfl 40 Z5 H2.out info40 rfl z1 ?_)
          refine bodyPost_ret (results_row2 rfl _ _ w.heap.size 40 #[.int .i64 3, .string X, .slice none 0 0, .slice none 0 0, .int .i64 0] (0, 0) _ (.int .i64 n) rfl HX.out Tryd.underlying40 rfl info40 rfl) rfl ?_
          exact ⟨by rw [HE.out]; rfl, below_setRowB HB2.out _ _ (Nat.le_refl _)⟩
end Go.Proofs.YtahdiknkcgnieaaDoor
