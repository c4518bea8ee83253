/- Plain mathematics: digits, texts and limbs. Nothing of the program is named here. -/
namespace Go.BigM
set_option linter.unusedVariables false

/-- A byte is a digit. -/
def isD (c : UInt8) : Prop := 48 ≤ c.toNat ∧ c.toNat ≤ 57
instance (c : UInt8) : Decidable (isD c) := by unfold isD; infer_instance

/-- The value of a row of digits, the highest first. -/
def dval (l : List UInt8) : Nat := l.foldl (fun n c => 10 * n + (c.toNat - 48)) 0

theorem dval_nil : dval [] = 0 := rfl
theorem dval_snoc (l : List UInt8) (c : UInt8) : dval (l ++ [c]) = 10 * dval l + (c.toNat - 48) := by
  unfold dval; rw [List.foldl_append]; rfl

theorem dval_go (l : List UInt8) : ∀ n, l.foldl (fun n c => 10 * n + (c.toNat - 48)) n = n * 10 ^ l.length + dval l := by
  induction l with
  | nil => intro n; simp [dval]
  | cons c l ih =>
    intro n
    have h1 := ih (10 * n + (c.toNat - 48))
    have h2 := ih (10 * 0 + (c.toNat - 48))
    simp only [List.foldl_cons, dval]
    rw [h1, h2]
    simp only [List.length_cons, Nat.pow_succ]
    rw [Nat.add_mul, Nat.add_mul]
    have : 10 * n * 10 ^ l.length = n * (10 ^ l.length * 10) := by rw [Nat.mul_comm 10 n, Nat.mul_assoc, Nat.mul_comm 10]
    omega

theorem dval_append (l m : List UInt8) : dval (l ++ m) = dval l * 10 ^ m.length + dval m := by
  unfold dval; rw [List.foldl_append]; exact dval_go m _

theorem dval_cons (c : UInt8) (m : List UInt8) : dval (c :: m) = (c.toNat - 48) * 10 ^ m.length + dval m := by
  have := dval_append [c] m
  simpa [dval] using this

theorem dval_lt (l : List UInt8) (h : ∀ c ∈ l, isD c) : dval l < 10 ^ l.length := by
  induction l with
  | nil => simp [dval]
  | cons c l ih =>
    rw [dval_cons, List.length_cons, Nat.pow_succ]
    have h1 := ih (fun x hx => h x (by simp [hx]))
    have h2 := (h c (by simp)).2
    have : (c.toNat - 48) * 10 ^ l.length ≤ 9 * 10 ^ l.length := Nat.mul_le_mul_right _ (by omega)
    omega

/-- The limb at a place; 0 behind the end. -/
def lg (l : List Nat) (j : Nat) : Nat := l.getD j 0

/-- The base of a limb. -/
def B : Nat := 1000000000

/-- The value of a row of limbs, the lowest first. -/
def lval : List Nat → Nat
  | [] => 0
  | a :: l => a + B * lval l

/-- All are limbs. -/
def Small (l : List Nat) : Prop := ∀ a ∈ l, a < B

theorem Small.nil : Small [] := by simp [Small]
theorem Small.cons {a l} (h : a < B) (hl : Small l) : Small (a :: l) := by
  intro x hx; simp at hx; rcases hx with rfl | hx; exact h; exact hl x hx
theorem Small.tail {a l} (h : Small (a :: l)) : Small l := fun x hx => h x (by simp [hx])
theorem Small.head {a l} (h : Small (a :: l)) : a < B := h a (by simp)
theorem Small.append {l m} (h : Small l) (k : Small m) : Small (l ++ m) := by
  intro x hx; simp at hx; rcases hx with hx | hx; exact h x hx; exact k x hx
theorem Small.left {l m} (h : Small (l ++ m)) : Small l := fun x hx => h x (by simp [hx])
theorem Small.right {l m} (h : Small (l ++ m)) : Small m := fun x hx => h x (by simp [hx])
theorem Small.take {l} (h : Small l) (n : Nat) : Small (l.take n) := fun x hx => h x (List.mem_of_mem_take hx)
theorem Small.drop {l} (h : Small l) (n : Nat) : Small (l.drop n) := fun x hx => h x (List.mem_of_mem_drop hx)
theorem Small.getD {l} (h : Small l) (n : Nat) : l.getD n 0 < B := by
  rw [List.getD_eq_getElem?_getD]
  by_cases hn : n < l.length
  · rw [List.getElem?_eq_getElem hn]; exact h _ (List.getElem_mem hn)
  · rw [List.getElem?_eq_none (by omega)]; simp [B]
theorem Small.zeros (n : Nat) : Small (List.replicate n 0) := by
  intro x hx; simp [List.mem_replicate] at hx; rw [hx.2]; simp [B]

theorem lval_append (l m : List Nat) : lval (l ++ m) = lval l + B ^ l.length * lval m := by
  induction l with
  | nil => simp [lval]
  | cons a l ih =>
    simp only [List.cons_append, lval, ih, List.length_cons, Nat.pow_succ]
    rw [Nat.mul_add, ← Nat.mul_assoc, Nat.mul_comm B (B ^ l.length)]; omega

theorem lval_snoc (l : List Nat) (a : Nat) : lval (l ++ [a]) = lval l + B ^ l.length * a := by
  rw [lval_append]; simp [lval]

theorem lval_zeros (n : Nat) : lval (List.replicate n 0) = 0 := by
  induction n with
  | zero => rfl
  | succ n ih => simp [List.replicate_succ, lval, ih]

theorem lval_lt (l : List Nat) (h : Small l) : lval l < B ^ l.length := by
  induction l with
  | nil => simp [lval]
  | cons a l ih =>
    have h1 := ih h.tail
    have h2 := h.head
    simp only [lval, List.length_cons, Nat.pow_succ]
    have : B * (lval l + 1) ≤ B * B ^ l.length := Nat.mul_le_mul_left _ (by omega)
    rw [Nat.mul_comm (B ^ l.length) B]
    rw [Nat.mul_add] at this
    omega

theorem Bpos (n : Nat) : 0 < B ^ n := Nat.pow_pos (by simp [B])

/-- Rows of one length, of limbs, of one value, are one. -/
theorem lval_inj : ∀ (l m : List Nat), l.length = m.length → Small l → Small m → lval l = lval m → l = m
  | [], [], _, _, _, _ => rfl
  | a :: l, b :: m, hl, h1, h2, hv => by
    simp only [lval] at hv
    have e1 : (a + B * lval l) % B = (b + B * lval m) % B := by rw [hv]
    rw [Nat.add_mul_mod_self_left, Nat.add_mul_mod_self_left, Nat.mod_eq_of_lt h1.head, Nat.mod_eq_of_lt h2.head] at e1
    subst e1
    have : B * lval l = B * lval m := by omega
    have := Nat.eq_of_mul_eq_mul_left (show 0 < B by simp [B]) this
    rw [lval_inj l m (by simpa using hl) h1.tail h2.tail this]
  | [], b :: m, hl, _, _, _ => by simp at hl
  | a :: l, [], hl, _, _, _ => by simp at hl

theorem lval_split (l : List Nat) (n : Nat) : lval l = lval (l.take n) + B ^ (min n l.length) * lval (l.drop n) := by
  have := lval_append (l.take n) (l.drop n)
  rw [List.take_append_drop] at this
  rw [this, List.length_take]

theorem take_succ_getD (l : List Nat) (n : Nat) (h : n < l.length) : l.take (n + 1) = l.take n ++ [l.getD n 0] := by
  rw [List.take_succ_eq_append_getElem h, List.getD_eq_getElem?_getD, List.getElem?_eq_getElem h]; rfl

theorem lval_take_succ (l : List Nat) (n : Nat) (h : n < l.length) : lval (l.take (n + 1)) = lval (l.take n) + B ^ n * l.getD n 0 := by
  rw [take_succ_getD l n h, lval_snoc, List.length_take, Nat.min_eq_left (by omega)]

theorem lval_take_ge (l : List Nat) (n : Nat) (h : l.length ≤ n) : lval (l.take n) = lval l := by rw [List.take_of_length_le h]

/-- A text without the sign that it may begin with. -/
def strip (l : List UInt8) : List UInt8 := if l.head? = some 45 then l.tail else l
/-- Does it begin with the sign? -/
def low (l : List UInt8) : Bool := l.head? == some 45
theorem strip_low (l : List UInt8) (h : low l = true) : strip l = l.tail := by unfold strip low at *; rw [if_pos (by simpa using h)]
theorem strip_high (l : List UInt8) (h : low l = false) : strip l = l := by unfold strip low at *; rw [if_neg (by simpa using h)]
/-- A number's text: W1 of the document. -/
def Canon (l : List UInt8) : Prop := 1 ≤ (strip l).length ∧ (strip l).length ≤ 200 ∧ (∀ c ∈ strip l, isD c) ∧ ((strip l).head? ≠ some 48 ∨ l = [48])
instance (l : List UInt8) : Decidable (Canon l) := by unfold Canon; infer_instance
theorem strip_le (l : List UInt8) : (strip l).length ≤ l.length := by unfold strip; split <;> simp

/-- How many limbs there are without the noughts on top. -/
def usedOf : List Nat → Nat
  | [] => 0
  | a :: l => if usedOf l = 0 then (if a = 0 then 0 else 1) else usedOf l + 1
theorem usedOf_le (l : List Nat) : usedOf l ≤ l.length := by
  induction l with
  | nil => simp [usedOf]
  | cons a l ih => simp only [usedOf, List.length_cons]; split <;> (try split) <;> omega
theorem usedOf_zeros (n : Nat) : usedOf (List.replicate n 0) = 0 := by
  induction n with
  | zero => rfl
  | succ n ih => simp [List.replicate_succ, usedOf, ih]
/-- It is k, if the limbs from k on are noughts, and the one ahead is none. -/
theorem usedOf_is : ∀ (l : List Nat) (k : Nat), k ≤ l.length → (∀ j, k ≤ j → l.getD j 0 = 0) → (k = 0 ∨ l.getD (k - 1) 0 ≠ 0) → usedOf l = k
  | [], k, hk, _, _ => by simp at hk; simp [usedOf, hk]
  | a :: l, 0, hk, hz, _ => by
    have := usedOf_is l 0 (Nat.zero_le _) (fun j _ => by have := hz (j + 1) (Nat.zero_le _); simpa using this) (Or.inl rfl)
    have ha := hz 0 (Nat.zero_le _)
    simp at ha
    simp [usedOf, this, ha]
  | a :: l, 1, hk, hz, hn => by
    have := usedOf_is l 0 (Nat.zero_le _) (fun j _ => by have := hz (j + 1) (by omega); simpa using this) (Or.inl rfl)
    have ha : a ≠ 0 := by simpa using hn
    simp [usedOf, this, ha]
  | a :: l, k + 2, hk, hz, hn => by
    have := usedOf_is l (k + 1) (by simpa using hk) (fun j hj => by have := hz (j + 1) (by omega); simpa using this) (Or.inr (by simpa using hn))
    simp [usedOf, this]
theorem usedOf_zero : ∀ (l : List Nat) (j : Nat), usedOf l ≤ j → l.getD j 0 = 0
  | [], j, _ => by simp
  | a :: l, 0, h => by
    simp only [usedOf] at h
    simp only [List.getD_cons_zero]
    split at h
    · split at h <;> omega
    · omega
  | a :: l, j + 1, h => by
    simp only [List.getD_cons_succ]
    refine usedOf_zero l j ?_
    simp only [usedOf] at h
    split at h <;> omega
theorem usedOf_top : ∀ (l : List Nat), usedOf l ≠ 0 → l.getD (usedOf l - 1) 0 ≠ 0
  | [], h => by simp [usedOf] at h
  | a :: l, h => by
    simp only [usedOf] at h ⊢
    by_cases hl : usedOf l = 0
    · simp only [hl, if_true] at h ⊢
      by_cases ha : a = 0
      · simp [ha] at h
      · simp [ha]
    · simp only [hl, if_false] at h ⊢
      have := usedOf_top l hl
      obtain ⟨m, hm⟩ : ∃ m, usedOf l = m + 1 := ⟨usedOf l - 1, by omega⟩
      rw [hm] at this ⊢
      simpa using this
theorem lval_drop_zero (l : List Nat) : ∀ n, (∀ j, n ≤ j → l.getD j 0 = 0) → lval (l.drop n) = 0 := by
  induction l with
  | nil => intro n _; simp [lval]
  | cons a l ih =>
    intro n h
    cases n with
    | zero =>
      have h0 := h 0 (Nat.le_refl _)
      have := ih 0 (fun j _ => by have := h (j + 1) (by omega); simpa using this)
      simp at h0 this
      simp [lval, h0, this]
    | succ n => simpa using ih n (fun j hj => by have := h (j + 1) (by omega); simpa using this)
theorem lval_used (l : List Nat) : lval (l.take (usedOf l)) = lval l := by
  rw [lval_split l (usedOf l), lval_drop_zero l _ (fun j hj => usedOf_zero l j hj)]; omega
theorem usedOf_zero_iff (l : List Nat) : usedOf l = 0 ↔ lval l = 0 := by
  constructor
  · intro h; have := lval_used l; rw [h] at this; simpa [lval] using this.symm
  · intro h
    by_cases hu : usedOf l = 0
    · exact hu
    · exfalso
      have h1 := usedOf_top l hu
      have h2 := lval_take_succ l (usedOf l - 1) (by have := usedOf_le l; omega)
      have h3 : usedOf l - 1 + 1 = usedOf l := by omega
      rw [h3, lval_used, h] at h2
      have : 0 < B ^ (usedOf l - 1) * l.getD (usedOf l - 1) 0 := Nat.mul_pos (Bpos _) (Nat.pos_of_ne_zero h1)
      omega

theorem lval_lt_of_top (A C : List Nat) (k : Nat) (hA : k < A.length) (hC : k < C.length) (h1 : Small A) (hd : A.drop (k + 1) = C.drop (k + 1)) (hl : lg A k < lg C k) :
    lval A < lval C := by
  have eA := lval_split A (k + 1)
  have eC := lval_split C (k + 1)
  rw [Nat.min_eq_left (by omega), lval_take_succ _ _ hA] at eA
  rw [Nat.min_eq_left (by omega), lval_take_succ _ _ hC, ← hd] at eC
  have b1 := lval_lt (A.take k) (h1.take k)
  rw [List.length_take, Nat.min_eq_left (by omega)] at b1
  have b2 : B ^ k * (A.getD k 0 + 1) ≤ B ^ k * C.getD k 0 := Nat.mul_le_mul_left _ hl
  rw [Nat.mul_add, Nat.mul_one] at b2
  omega
theorem drop_step (A C : List Nat) (k : Nat) (hA : k < A.length) (hC : k < C.length) (hd : A.drop (k + 1) = C.drop (k + 1)) (hl : lg A k = lg C k) : A.drop k = C.drop k := by
  rw [List.drop_eq_getElem_cons hA, List.drop_eq_getElem_cons hC, hd]
  congr 1
  unfold lg at hl
  rw [List.getD_eq_getElem?_getD, List.getD_eq_getElem?_getD, List.getElem?_eq_getElem hA, List.getElem?_eq_getElem hC] at hl
  exact hl

theorem lval_take_lg (l : List Nat) (n : Nat) : lval (l.take (n + 1)) = lval (l.take n) + B ^ n * lg l n := by
  by_cases h : n < l.length
  · exact lval_take_succ l n h
  · rw [List.take_of_length_le (by omega), List.take_of_length_le (by omega)]
    have : lg l n = 0 := by unfold lg; rw [List.getD_eq_getElem?_getD, List.getElem?_eq_none (by omega)]; rfl
    rw [this]; omega
theorem lg_of_drop (l : List Nat) (o i : Nat) : lg (l.drop o) i = lg l (o + i) := by
  unfold lg; rw [List.getD_eq_getElem?_getD, List.getD_eq_getElem?_getD, List.getElem?_drop]
/-- One step of a sum with carry. -/
theorem add_step (P A q Rv c a r i : Nat) (h : P + B ^ i * c = A + q * Rv) :
    P + B ^ i * ((c + a + r * q) % B) + B ^ (i + 1) * ((c + a + r * q) / B) = A + B ^ i * a + q * (Rv + B ^ i * r) := by
  have h1 := Nat.mod_add_div (c + a + r * q) B
  have h2 : B ^ i * ((c + a + r * q) % B) + B ^ (i + 1) * ((c + a + r * q) / B) = B ^ i * (c + a + r * q) := by
    rw [Nat.pow_succ, Nat.mul_assoc, ← Nat.mul_add, h1]
  have h3 : B ^ i * (c + a + r * q) = B ^ i * c + B ^ i * a + q * (B ^ i * r) := by
    rw [Nat.mul_add, Nat.mul_add, Nat.mul_comm r q, ← Nat.mul_assoc, ← Nat.mul_assoc, Nat.mul_comm (B ^ i) q]
  rw [Nat.mul_add]
  omega

/-- One step of a difference with borrow: d is what is left of a, with b borrowed (0 or 1). -/
theorem take_step (P A q Rv c a r i d b : Nat) (h : P + q * Rv = A + B ^ i * c) (hd : d + (c + r * q) % B = a + B * b) :
    P + B ^ i * d + q * (Rv + B ^ i * r) = A + B ^ i * a + B ^ (i + 1) * ((c + r * q) / B + b) := by
  have h1 := Nat.mod_add_div (c + r * q) B
  have h2 : B ^ i * ((c + r * q) % B) + B ^ (i + 1) * ((c + r * q) / B) = B ^ i * c + q * (B ^ i * r) := by
    rw [Nat.pow_succ, Nat.mul_assoc, ← Nat.mul_add, h1, Nat.mul_add, Nat.mul_comm r q, ← Nat.mul_assoc, ← Nat.mul_assoc, Nat.mul_comm (B ^ i) q]
  have h3 : B ^ i * d + B ^ i * ((c + r * q) % B) = B ^ i * a + B ^ (i + 1) * b := by
    rw [Nat.pow_succ, Nat.mul_assoc, ← Nat.mul_add, ← Nat.mul_add, hd]
  rw [Nat.mul_add, Nat.mul_add]
  omega

theorem lval_take_used (l : List Nat) (k : Nat) (h : usedOf l ≤ k) : lval (l.take k) = lval l := by
  rw [lval_split l k, lval_drop_zero l _ (fun j hj => usedOf_zero l j (by omega))]; omega
theorem lval_lt_used (l : List Nat) (k : Nat) (h : usedOf l ≤ k) (s : Small l) : lval l < B ^ k := by
  rw [← lval_take_used l k h]
  have := lval_lt (l.take k) (s.take k)
  rw [List.length_take] at this
  exact Nat.lt_of_lt_of_le this (Nat.pow_le_pow_right (by simp [B]) (Nat.min_le_left _ _))
theorem lval_drop_used (l : List Nat) (k : Nat) (h : usedOf l ≤ k) : lval (l.drop k) = 0 := lval_drop_zero l _ (fun j hj => usedOf_zero l j (by omega))
/-- Fewer limbs are used, the less the value is. -/
theorem used_of_lt (l : List Nat) (k : Nat) (h : lval l < B ^ k) : usedOf l ≤ k := by
  by_cases hu : usedOf l ≤ k
  · exact hu
  · exfalso
    have h1 := usedOf_top l (by omega)
    have h2 := lval_take_succ l (usedOf l - 1) (by have := usedOf_le l; omega)
    have h3 : usedOf l - 1 + 1 = usedOf l := by omega
    rw [h3, lval_used] at h2
    have h4 : B ^ k ≤ B ^ (usedOf l - 1) := Nat.pow_le_pow_right (by simp [B]) (by omega)
    have h5 : B ^ (usedOf l - 1) * 1 ≤ B ^ (usedOf l - 1) * l.getD (usedOf l - 1) 0 := Nat.mul_le_mul_left _ (Nat.pos_of_ne_zero h1)
    omega
theorem used_mono (l m : List Nat) (s : Small m) (h : lval l ≤ lval m) : usedOf l ≤ usedOf m := by
  have := lval_lt_used m _ (Nat.le_refl _) s
  exact used_of_lt l _ (by omega)

theorem dval_split (l : List UInt8) (c m : Nat) (hc : c ≤ m) (hm : m ≤ l.length) : dval (l.drop c) = dval ((l.take m).drop c) * 10 ^ (l.length - m) + dval (l.drop m) := by
  have : l.drop c = (l.take m).drop c ++ l.drop m := by
    rw [List.drop_take]
    have h2 : l.drop m = (l.drop c).drop (m - c) := by rw [List.drop_drop]; congr 1; omega
    rw [h2, List.take_append_drop]
  rw [this, dval_append, List.length_drop]
theorem B_pow (i : Nat) : B ^ i = 10 ^ (9 * i) := by unfold B; rw [Nat.pow_mul]

/-- The digits of a number, the highest first; none of 0. -/
def digs (v : Nat) : List UInt8 := if h : v = 0 then [] else digs (v / 10) ++ [UInt8.ofNat (48 + v % 10)]
theorem digs_zero : digs 0 = [] := by rw [digs]; simp
theorem digs_pos (v : Nat) (h : v ≠ 0) : digs v = digs (v / 10) ++ [UInt8.ofNat (48 + v % 10)] := by rw [digs, dif_neg h]
theorem dig_nat (d : Nat) (h : d < 10) : (UInt8.ofNat (48 + d)).toNat = 48 + d := by rw [UInt8.toNat_ofNat_of_lt' (by show _ < 256; omega)]
theorem dig_back (c : UInt8) (h : isD c) : UInt8.ofNat (48 + (c.toNat - 48)) = c := by
  apply UInt8.toNat_inj.1
  unfold isD at h
  rw [dig_nat _ (by omega)]; omega
theorem digs_isD : ∀ v, ∀ c ∈ digs v, isD c := by
  intro v
  induction v using Nat.strongRecOn with
  | _ v ih =>
    intro c hc
    by_cases h : v = 0
    · subst h; rw [digs_zero] at hc; simp at hc
    · rw [digs_pos v h] at hc
      simp only [List.mem_append, List.mem_singleton] at hc
      rcases hc with hc | rfl
      · exact ih (v / 10) (by omega) c hc
      · unfold isD; rw [dig_nat _ (by omega)]; omega
theorem dval_digs : ∀ v, dval (digs v) = v := by
  intro v
  induction v using Nat.strongRecOn with
  | _ v ih =>
    by_cases h : v = 0
    · subst h; rw [digs_zero]; rfl
    · rw [digs_pos v h, dval_snoc, ih (v / 10) (by omega), dig_nat _ (by omega)]; omega
theorem digs_head : ∀ v, (digs v).head? ≠ some 48 := by
  intro v
  induction v using Nat.strongRecOn with
  | _ v ih =>
    by_cases h : v = 0
    · subst h; rw [digs_zero]; simp
    · rw [digs_pos v h]
      by_cases h2 : v / 10 = 0
      · rw [h2, digs_zero]
        simp only [List.nil_append, List.head?_cons]
        intro e
        injection e with e
        have := congrArg UInt8.toNat e
        rw [dig_nat _ (by omega)] at this
        have h48 : (48 : UInt8).toNat = 48 := rfl
        omega
      · have h3 := ih (v / 10) (by omega)
        cases hd : digs (v / 10) with
        | nil => rw [digs_pos _ h2] at hd; simp at hd
        | cons a m => rw [hd] at h3; simpa using h3
theorem digs_len : ∀ n v, (digs v).length ≤ n ↔ v < 10 ^ n := by
  intro n
  induction n with
  | zero =>
    intro v
    by_cases h : v = 0
    · subst h; simp [digs_zero]
    · rw [digs_pos v h]; simp; omega
  | succ n ih =>
    intro v
    by_cases h : v = 0
    · subst h; simp [digs_zero, Nat.pow_pos]
    · rw [digs_pos v h, List.length_append, List.length_singleton, Nat.add_le_add_iff_right, ih (v / 10), Nat.pow_succ]
      rw [Nat.div_lt_iff_lt_mul (by decide)]
theorem digs_snoc (x : Nat) (c : UInt8) (hc : isD c) (h : 10 * x + (c.toNat - 48) ≠ 0) : digs (10 * x + (c.toNat - 48)) = digs x ++ [c] := by
  have hc' : c.toNat - 48 < 10 := by unfold isD at hc; omega
  rw [digs_pos _ h]
  have e1 : (10 * x + (c.toNat - 48)) / 10 = x := by omega
  have e2 : (10 * x + (c.toNat - 48)) % 10 = c.toNat - 48 := by omega
  rw [e1, e2, dig_back c hc]
/-- Without the noughts ahead a row of digits is its value's digits. -/
theorem trim_digs (D : List UInt8) : (∀ c ∈ D, isD c) → D.dropWhile (· == 48) = digs (dval D) := by
  have H : ∀ n (D : List UInt8), D.length = n → (∀ c ∈ D, isD c) → D.dropWhile (· == 48) = digs (dval D) := by
    intro n
    induction n with
    | zero => intro D hD _; obtain rfl := List.length_eq_zero_iff.1 hD; simp [dval, digs_zero]
    | succ n ih =>
      intro D hD hd
      obtain ⟨E, c, rfl⟩ : ∃ E c, D = E ++ [c] := by
        have hne : D ≠ [] := by intro h; rw [h] at hD; simp at hD
        exact ⟨D.dropLast, D.getLast hne, (List.dropLast_concat_getLast hne).symm⟩
      have hE := ih E (by simpa using hD) (fun x hx => hd x (by simp [hx]))
      have hc : isD c := hd c (by simp)
      rw [List.dropWhile_append, hE, dval_snoc]
      by_cases hx : dval E = 0
      · rw [hx, digs_zero]
        by_cases hc0 : c = 48
        · subst hc0; simp [digs_zero]
        · have hcn : c.toNat ≠ 48 := fun e => hc0 (UInt8.toNat_inj.1 (by rw [e]; rfl))
          unfold isD at hc
          have := digs_snoc 0 c hc (by omega)
          rw [digs_zero] at this
          rw [this]
          simp [hc0]
      · have hne : digs (dval E) ≠ [] := by rw [digs_pos _ hx]; simp
        rw [digs_snoc _ c hc (by omega)]
        cases hde : digs (dval E) with
        | nil => exact absurd hde hne
        | cons a m => simp
  exact H D.length D rfl
theorem digs_ne (v : Nat) (h : v ≠ 0) : digs v ≠ [] := by rw [digs_pos v h]; simp

/-- What a number must be below. -/
def Lim : Nat := 10 ^ 200
theorem Lim_len (v : Nat) : (digs v).length ≤ 200 ↔ v < Lim := digs_len 200 v
/-- The text of a number, as a row of bytes; none if it has too many digits. -/
def txt (b : Bool) (v : Nat) : List UInt8 := if v = 0 then [48] else if v < Lim then (if b then 45 :: digs v else digs v) else []

/-- A number of a sign and a size. -/
def sgn (b : Bool) (v : Nat) : Int := if b then -(v : Int) else v
theorem sgn_abs (b : Bool) (v : Nat) : (sgn b v).natAbs = v := by unfold sgn; split <;> omega
theorem sgn_true (v : Nat) : sgn true v = -(v : Int) := rfl
theorem sgn_false (v : Nat) : sgn false v = v := rfl
/-- A number's text. -/
def txtI (z : Int) : List UInt8 := txt (decide (z < 0)) z.natAbs
theorem txt_sgn (b : Bool) (v : Nat) : txt b v = txtI (sgn b v) := by
  unfold txtI
  rw [sgn_abs]
  by_cases h : v = 0
  · subst h; unfold txt; simp
  · cases b with
    | true => rw [sgn_true, decide_eq_true (by omega)]
    | false => rw [sgn_false, decide_eq_false (by omega)]
/-- The number that a text is. -/
def ival (l : List UInt8) : Int := sgn (low l) (dval (strip l))

theorem digs_low (v : Nat) : low (digs v) = false := by
  unfold low
  cases hd : digs v with
  | nil => rfl
  | cons a m =>
    have h := digs_isD v a (by rw [hd]; simp)
    simp
    intro e; subst e; unfold isD at h; have h45 : (45 : UInt8).toNat = 45 := rfl; omega
theorem Lim_pos : 0 < Lim := by unfold Lim; exact Nat.pow_pos (by decide)

theorem txtI_spec (z : Int) (h : z.natAbs < Lim) : Canon (txtI z) ∧ ival (txtI z) = z := by
  unfold txtI txt
  by_cases h0 : z.natAbs = 0
  · rw [if_pos h0]
    refine ⟨by decide, ?_⟩
    have : z = 0 := by omega
    subst this; rfl
  · rw [if_neg h0, if_pos h]
    have hl := (Lim_len _).2 h
    have hne := digs_ne _ h0
    have hlen : 1 ≤ (digs z.natAbs).length := by
      cases hd : digs z.natAbs with
      | nil => exact absurd hd hne
      | cons a m => simp
    by_cases hz : z < 0
    · rw [decide_eq_true hz, if_pos rfl]
      have hlow : low (45 :: digs z.natAbs) = true := by simp [low]
      have hst : strip (45 :: digs z.natAbs) = digs z.natAbs := by rw [strip_low _ hlow]; rfl
      refine ⟨⟨by rw [hst]; exact hlen, by rw [hst]; exact hl, by rw [hst]; exact digs_isD _, Or.inl (by rw [hst]; exact digs_head _)⟩, ?_⟩
      unfold ival
      rw [hst, hlow, dval_digs, sgn_true]; omega
    · rw [decide_eq_false hz, if_neg Bool.false_ne_true]
      have hst : strip (digs z.natAbs) = digs z.natAbs := strip_high _ (digs_low _)
      refine ⟨⟨by rw [hst]; exact hlen, by rw [hst]; exact hl, by rw [hst]; exact digs_isD _, Or.inl (by rw [hst]; exact digs_head _)⟩, ?_⟩
      unfold ival
      rw [hst, digs_low, dval_digs, sgn_false]; omega

theorem canon_lim (l : List UInt8) (h : Canon l) : dval (strip l) < Lim := by
  obtain ⟨_, h2, h3, _⟩ := h
  have := dval_lt (strip l) h3
  unfold Lim
  exact Nat.lt_of_lt_of_le this (Nat.pow_le_pow_right (by decide) h2)
theorem canon_ival (l : List UInt8) (h : Canon l) : (ival l).natAbs < Lim := by unfold ival; rw [sgn_abs]; exact canon_lim l h
/-- A text is its number's. -/
theorem canon_txt (l : List UInt8) (h : Canon l) : txtI (ival l) = l := by
  have hlim := canon_lim l h
  obtain ⟨h1, h2, h3, h4⟩ := h
  unfold ival
  rw [← txt_sgn]
  have htrim := trim_digs (strip l) h3
  rcases h4 with h4 | h4
  · have hdw : (strip l).dropWhile (· == 48) = strip l := by
      cases hs : strip l with
      | nil => rfl
      | cons a m =>
        rw [hs] at h4
        have : a ≠ 48 := by intro e; apply h4; rw [e]; rfl
        simp [this]
    rw [hdw] at htrim
    have h0 : dval (strip l) ≠ 0 := by
      intro e; rw [e, digs_zero] at htrim; rw [htrim] at h1; simp at h1
    unfold txt
    rw [if_neg h0, if_pos hlim, ← htrim]
    cases hb : low l with
    | true =>
      rw [if_pos rfl, strip_low _ hb]
      unfold low at hb
      cases l with
      | nil => simp at hb
      | cons a m => simp at hb; rw [hb]; rfl
    | false => rw [if_neg Bool.false_ne_true, strip_high _ hb]
  · subst h4; rfl
end Go.BigM
