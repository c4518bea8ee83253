/- Where what only leads on ends: what is known of it on the way. -/
import Derived.Test.YtjecjlnkpbbanaaG1
import Derived.Test.YtjecjlnkpbbanaaP7
namespace Go.Proofs.Ytjecjlnkpbbanaa
set_option linter.unusedVariables false
set_option linter.unusedSimpArgs false
theorem nxt_none_tag {os : List Ob} {a : Int} (h : Vd os a) (hn : nxt os a = none) : ∃ q, ob os a = some q ∧ q.tag ≠ 5 := by
  obtain ⟨q, hq⟩ := h
  refine ⟨q, hq, fun e => ?_⟩
  unfold nxt at hn
  rw [hq] at hn
  simp [e] at hn
theorem nxt_some_tag {os : List Ob} {a : Int} {q : Ob} (hq : ob os a = some q) (h : q.tag = 5) : nxt os a = some (q.body.headD 0) := by
  unfold nxt; rw [hq]; simp [h]
theorem led_cons {os : List Ob} {a b : Int} (h : nxt os a = some b) {j : Nat} (hl : ledTo os b j) : ledTo os a (j + 1) := by
  intro i hi
  cases i with
  | zero => show (nxt os a).isSome = true; rw [h]; rfl
  | succ i => rw [it_succ', h]; exact hl i (by omega)
theorem fol_led' {os : List Ob} (hc : Closed os) (hk : Oks os) {a : Int} (h : Vd os a) (hl : ∀ n, ledTo os a n) : folOf os a = -1 := fol_led hc hk _ a h (hl _)
theorem fol_step {os : List Ob} (hc : Closed os) (hk : Oks os) {a b : Int} (ha : Vd os a) (h : nxt os a = some b) : folOf os a = folOf os b := by
  have hb : Vd os b := hc.next hk h
  by_cases hx : ∃ j, ledTo os b j ∧ nxt os (it os j b) = none
  · obtain ⟨j, h1, h2⟩ := hx
    obtain ⟨q, hq⟩ := ha
    obtain ⟨r, hr⟩ := hb
    obtain ⟨s, hs, ht⟩ := nxt_none_tag (it_valid hc hk hr h1 j (Nat.le_refl _)) h2
    rw [fol_end hc hk hr h1 hs ht]
    have e : it os (j + 1) a = it os j b := by rw [it_succ', h]; rfl
    rw [← e]
    exact fol_end hc hk hq (led_cons h h1) (by rw [e]; exact hs) ht
  · have hall : ∀ n, ledTo os b n := by
      intro n
      induction n with
      | zero => intro i hi; omega
      | succ n ih =>
        intro i hi
        by_cases e : i < n
        · exact ih i e
        · obtain rfl : i = n := by omega
          cases hn : nxt os (it os i b) with
          | none => exact absurd ⟨i, ih, hn⟩ hx
          | some y => rfl
    rw [fol_led' hc hk hb hall, fol_led' hc hk ha]
    intro n
    cases n with
    | zero => intro i hi; omega
    | succ n => exact led_cons h (hall n)
theorem led_less {os : List Ob} {a : Int} {n m : Nat} (h : ledTo os a n) (hm : m ≤ n) : ledTo os a m := fun i hi => h i (by omega)
theorem it_vd {os : List Ob} (hc : Closed os) (hk : Oks os) {a : Int} (ha : Vd os a) {k : Nat} (hl : ledTo os a k) {i : Nat} (hi : i ≤ k) : Vd os (it os i a) := by
  obtain ⟨q, hq⟩ := ha
  exact it_valid hc hk hq hl i hi
theorem fol_it {os : List Ob} (hc : Closed os) (hk : Oks os) {a : Int} (ha : Vd os a) {k : Nat} (hl : ledTo os a k) : ∀ i, i ≤ k → folOf os (it os i a) = folOf os a
  | 0, _ => rfl
  | i + 1, h => by
    rw [← fol_it hc hk ha hl i (by omega)]
    have h1 := hl i (by omega)
    cases hn : nxt os (it os i a) with
    | none => rw [hn] at h1; cases h1
    | some b =>
      have e : it os (i + 1) a = b := by show (nxt os (it os i a)).getD 0 = b; rw [hn]; rfl
      rw [e]
      exact (fol_step hc hk (it_vd hc hk ha hl (by omega)) hn).symm
/-- Rows of marks: each of l is set to x. -/
def setAll (es : List Int) (x : Int → Int) : List Int → List Int
  | [] => es
  | a :: l => setAll (es.set a.toNat (x a)) x l
theorem setAll_len (x : Int → Int) : ∀ (l es : List Int), (setAll es x l).length = es.length
  | [], es => rfl
  | a :: l, es => by unfold setAll; rw [setAll_len x l]; simp
theorem setAll_snoc (x : Int → Int) : ∀ (l es : List Int) (a : Int), setAll es x (l ++ [a]) = (setAll es x l).set a.toNat (x a)
  | [], es, a => rfl
  | b :: l, es, a => by simp only [List.cons_append, setAll]; exact setAll_snoc x l _ a
theorem setAll_get (x : Int → Int) : ∀ (l es : List Int) (p : Nat), (∀ a ∈ l, 0 ≤ a ∧ a < es.length) → (setAll es x l)[p]? = if (p : Int) ∈ l then some (x p) else es[p]?
  | [], es, p, h => by simp [setAll]
  | a :: l, es, p, h => by
    unfold setAll
    rw [setAll_get x l _ p (fun b hb => by rw [List.length_set]; exact h b (by simp [hb])), List.getElem?_set]
    have ha := h a (by simp)
    by_cases h1 : (p : Int) ∈ l
    · rw [if_pos h1, if_pos (by simp [h1])]
    · rw [if_neg h1]
      by_cases h2 : a.toNat = p
      · have : (p : Int) = a := by omega
        rw [if_pos h2, if_pos (by omega), if_pos (by simp [this]), this]
      · rw [if_neg h2, if_neg (by simp only [List.mem_cons, not_or]; exact ⟨by omega, h1⟩)]
def EI (os : List Ob) (es : List Int) : Prop := ∀ (i : Nat) (v : Int), es[i]? = some v → Vd os i → v = -1 ∨ (v = endO os i ∧ (hdo os i).t = 5)
def PI (os : List Ob) (i : Nat) (l : List Int) : Prop := ∀ (d : Nat) (v : Int), l[d]? = some v → v = -1 ∨ v = shortO os d i
def rowOf (os : List Ob) (a : Int) (k : Nat) : List Int := (List.range k).map fun i => it os i a
theorem rowOf_len (os : List Ob) (a : Int) (k : Nat) : (rowOf os a k).length = k := by simp [rowOf]
theorem rowOf_snoc (os : List Ob) (a : Int) (k : Nat) : rowOf os a (k + 1) = rowOf os a k ++ [it os k a] := by unfold rowOf; rw [List.range_succ, List.map_append]; rfl
theorem mem_rowOf {os : List Ob} {a x : Int} {k : Nat} : x ∈ rowOf os a k ↔ ∃ i, i < k ∧ it os i a = x := by
  unfold rowOf; simp [List.mem_map, List.mem_range]
theorem vd_lt {os : List Ob} {a : Int} (h : Vd os a) : 0 ≤ a ∧ a < total os := by obtain ⟨q, hq⟩ := h; exact ob_pos hq
/-- The walk along what leads on. -/
structure Wk (os : List Ob) (es0 : List Int) (a : Int) (k : Nat) : Prop where
  led : ledTo os a k
  un : ∀ i, i < k → es0[(it os i a).toNat]? = some (-1)
  dif : ∀ i j, i < j → j < k → it os i a ≠ it os j a
theorem Wk.zero (os : List Ob) (es0 : List Int) (a : Int) : Wk os es0 a 0 := ⟨fun i hi => by omega, fun i hi => by omega, fun i j _ h => by omega⟩
theorem Wk.bound {os : List Ob} {es0 : List Int} {a : Int} {k : Nat} (h : Wk os es0 a k) (hc : Closed os) (hk : Oks os) (ha : Vd os a) : k ≤ os.length := by
  obtain ⟨q, hq⟩ := ha
  apply Decidable.byContradiction
  intro hn
  obtain ⟨i, j, h1, h2, h3⟩ := it_twice hc hk hq (led_less h.led (show os.length ≤ k by omega))
  exact h.dif i j h1 (by omega) h3
theorem Wk.rows {os : List Ob} {es0 : List Int} {a : Int} {k : Nat} (h : Wk os es0 a k) (hc : Closed os) (hk : Oks os) (ha : Vd os a) (hl : es0.length = total os) : ∀ x ∈ rowOf os a k, 0 ≤ x ∧ x < es0.length := by
  intro x hx
  obtain ⟨i, hi, rfl⟩ := mem_rowOf.1 hx
  rw [hl]
  exact vd_lt (it_vd hc hk ha h.led (by omega))
def mks (os : List Ob) (es0 : List Int) (a : Int) (k : Nat) : List Int := setAll es0 (fun x => x) (rowOf os a k)
/-- One more is marked. -/
theorem Wk.more {os : List Ob} {es0 : List Int} {a : Int} {k : Nat} (h : Wk os es0 a k) (hc : Closed os) (hk : Oks os) (ha : Vd os a) (hl : es0.length = total os) (ht : (hdo os (it os k a)).t = 5) (hu : (mks os es0 a k)[(it os k a).toNat]? = some (-1)) : Wk os es0 a (k + 1) := by
  have hv := it_vd hc hk ha h.led (Nat.le_refl k)
  have hp := vd_lt hv
  have h1 := setAll_get (fun x => x) (rowOf os a k) es0 (it os k a).toNat (h.rows hc hk ha hl)
  have e : (((it os k a).toNat : Nat) : Int) = it os k a := by omega
  unfold mks at hu
  rw [h1, e] at hu
  have hni : it os k a ∉ rowOf os a k := fun hm => by
    rw [if_pos hm] at hu
    injection hu with hu
    omega
  rw [if_neg hni] at hu
  refine ⟨fun i hi => ?_, fun i hi => ?_, fun i j q1 h2 e9 => ?_⟩
  · by_cases e : i < k
    · exact h.led i e
    · obtain rfl : i = k := by omega
      obtain ⟨q, hq⟩ := hv
      rw [hdo_tag hq] at ht
      rw [nxt_some_tag hq ht]; rfl
  · by_cases e : i < k
    · exact h.un i e
    · obtain rfl : i = k := by omega
      exact hu
  · by_cases e2 : j < k
    · exact h.dif i j q1 e2 e9
    · obtain rfl : j = k := by omega
      exact hni (mem_rowOf.2 ⟨i, q1, e9⟩)
theorem mks_more (os : List Ob) (es0 : List Int) (a : Int) (k : Nat) : mks os es0 a (k + 1) = (mks os es0 a k).set (it os k a).toNat (it os k a) := by
  unfold mks; rw [rowOf_snoc, setAll_snoc]
/-- Where the walk ends: what is told there. -/
theorem Wk.last {os : List Ob} {es0 : List Int} {a : Int} {k : Nat} (h : Wk os es0 a k) (hc : Closed os) (hk : Oks os) (ha : Vd os a) (hl : es0.length = total os) (hE : EI os es0) {v : Int} (ht : (hdo os (it os k a)).t = 5) (hv : (mks os es0 a k)[(it os k a).toNat]? = some v) (hn : v ≠ -1) :
    v = endO os (it os k a) := by
  have hvd := it_vd hc hk ha h.led (Nat.le_refl k)
  have hp := vd_lt hvd
  have h1 := setAll_get (fun x => x) (rowOf os a k) es0 (it os k a).toNat (h.rows hc hk ha hl)
  have e : (((it os k a).toNat : Nat) : Int) = it os k a := by omega
  unfold mks at hv
  rw [h1, e] at hv
  by_cases hm : it os k a ∈ rowOf os a k
  · rw [if_pos hm] at hv
    injection hv with hv
    obtain ⟨i, hi, e2⟩ := mem_rowOf.1 hm
    obtain ⟨q, hq⟩ := ha
    have h2 := fol_round hc hk hq hi e2.symm h.led
    have h3 := fol_it hc hk ⟨q, hq⟩ h.led k (Nat.le_refl k)
    rw [h2] at h3
    unfold endO
    rw [h3, if_pos (by decide)]; exact hv.symm
  · rw [if_neg hm] at hv
    rcases hE _ v hv (by rw [e]; exact hvd) with h2 | ⟨h2, _⟩
    · exact absurd h2 hn
    · rw [e] at h2; exact h2
/-- The rings stay. -/
theorem Wk.ring {os : List Ob} {es0 : List Int} {a : Int} {k : Nat} (h : Wk os es0 a k) (hc : Closed os) (hk : Oks os) (ha : Vd os a) (hl : es0.length = total os) (hE : EI os es0) (hf : (hdo os (endO os (it os k a))).t = 5) :
    endO os a = a ∧ EI os (mks os es0 a k) := by
  have hvd := it_vd hc hk ha h.led (Nat.le_refl k)
  have h0 : folOf os a = -1 := by
    rcases endO_cases hvd with ⟨e, _⟩ | ⟨q, hq, ht, _⟩
    · rw [← fol_it hc hk ha h.led k (Nat.le_refl k)]; exact e
    · rw [hdo_tag hq] at hf; exact absurd hf ht
  refine ⟨by unfold endO; rw [h0, if_pos (by decide)], fun i v hv hi => ?_⟩
  unfold mks at hv
  rw [setAll_get _ _ _ _ (h.rows hc hk ha hl)] at hv
  split at hv
  · rename_i hm
    injection hv with hv
    obtain ⟨j, hj, e⟩ := mem_rowOf.1 hm
    have h2 := fol_it hc hk ha h.led j (by omega)
    rw [e, h0] at h2
    refine .inr ⟨by unfold endO; rw [h2, if_pos (by decide)]; exact hv.symm, ?_⟩
    have h3 := h.led j hj
    rw [e, tag_nxt] at h3
    simpa using h3
  · exact hE i v hv hi
theorem Wk.out {os : List Ob} {es0 : List Int} {a : Int} {k : Nat} (h : Wk os es0 a k) (hc : Closed os) (hk : Oks os) (ha : Vd os a) (hl : es0.length = total os) (hE : EI os es0) (hf : (hdo os (endO os (it os k a))).t ≠ 5) :
    endO os a = endO os (it os k a) ∧ EI os (setAll (mks os es0 a k) (fun _ => endO os (it os k a)) (rowOf os a k)) := by
  have hvd := it_vd hc hk ha h.led (Nat.le_refl k)
  have hne : folOf os (it os k a) = endO os (it os k a) ∧ ¬ folOf os (it os k a) < 0 := by
    rcases endO_cases hvd with ⟨e, e2⟩ | ⟨q, hq, ht, e⟩
    · exfalso
      obtain ⟨r, hr⟩ := hvd
      rw [e2, hdo_tag hr] at hf
      rw [fol_self hr hf] at e
      have := (ob_pos hr).1
      omega
    · have := (ob_pos hq).1; exact ⟨e, by omega⟩
  have h1 := fol_it hc hk ha h.led k (Nat.le_refl k)
  refine ⟨by conv => lhs; unfold endO
             rw [← h1, if_neg hne.2, hne.1], fun i v hv hi => ?_⟩
  have hr := h.rows hc hk ha hl
  rw [setAll_get _ _ _ _ (by unfold mks; rw [setAll_len]; exact hr)] at hv
  split at hv
  · rename_i hm
    injection hv with hv
    obtain ⟨j, hj, e⟩ := mem_rowOf.1 hm
    have h2 := fol_it hc hk ha h.led j (by omega)
    rw [e, ← h1] at h2
    refine .inr ⟨by conv => rhs; unfold endO
                    rw [h2, if_neg hne.2, hne.1]; exact hv.symm, ?_⟩
    have h3 := h.led j hj
    rw [e, tag_nxt] at h3
    simpa using h3
  · rename_i hm
    unfold mks at hv
    rw [setAll_get _ _ _ _ hr, if_neg hm] at hv
    exact hE i v hv hi
end Go.Proofs.Ytjecjlnkpbbanaa
