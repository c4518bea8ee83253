/- Collecting: plain mathematics: what an address comes to, what is copied, where it comes to lie. -/
import Derived.Test.YtkekekdkfjjifaaZD
import Derived.Test.YtkekekdkfjjifaaZB
namespace Go.Proofs.Ytkekekdkfjjifaa
set_option linter.unusedVariables false
set_option linter.unusedSimpArgs false
def Vd (os : List Ob) (a : Int) : Prop := ∃ q, ob os a = some q
def endO (os : List Ob) (a : Int) : Int := if folOf os a < 0 then a else folOf os a
def shortO (os : List Ob) : Nat → Int → Int
  | 0, a => endO os a
  | d + 1, a =>
    if (hdo os (endO os a)).t = 6 then
      if (hdo os (shortO os d ((ptrsOf os (endO os a)).headD 0))).t = 2 then
        shortO os d ((ptrsOf os (shortO os d ((ptrsOf os (endO os a)).headD 0))).getD ((numsOf os (endO os a)).headD 0).toNat 0)
      else endO os a
    else endO os a
theorem hdo_ob {os : List Ob} {a : Int} {o : Ob} (h : ob os a = some o) : hdo os a = o.head := by unfold hdo; rw [h]
theorem ptrsOf_ob {os : List Ob} {a : Int} {o : Ob} (h : ob os a = some o) : ptrsOf os a = o.ptrs := by unfold ptrsOf; rw [h]
theorem numsOf_ob {os : List Ob} {a : Int} {o : Ob} (h : ob os a = some o) : numsOf os a = o.nums := by unfold numsOf; rw [h]
theorem fol_cases {os : List Ob} : ∀ (n : Nat) (a : Int), fol os n a = -1 ∨ ∃ q, ob os (fol os n a) = some q ∧ q.tag ≠ 5 := by
  intro n
  induction n with
  | zero =>
    intro a
    unfold fol
    cases h : ob os a with
    | none => exact .inl rfl
    | some o =>
      by_cases ht : o.tag = 5
      · simp [ht]
      · simp only [if_neg ht]; exact .inr ⟨o, h, ht⟩
  | succ n ih =>
    intro a
    unfold fol
    cases h : ob os a with
    | none => exact .inl rfl
    | some o =>
      by_cases ht : o.tag = 5
      · simp only [if_pos ht]; exact ih _
      · simp only [if_neg ht]; exact .inr ⟨o, h, ht⟩
theorem ob_pos {os : List Ob} {a : Int} {o : Ob} (h : ob os a = some o) : 0 ≤ a ∧ a < total os := by
  obtain ⟨i, hi, _, e, rfl⟩ := ob_some h
  have := adr_le hi
  have h2 : os[i].size = os[i].body.length + 1 := rfl
  omega
/-- The end: what does not only lead on; or the address itself. -/
theorem endO_cases {os : List Ob} {a : Int} (h : Vd os a) : (folOf os a = -1 ∧ endO os a = a) ∨ (∃ q, ob os (endO os a) = some q ∧ q.tag ≠ 5 ∧ folOf os a = endO os a) := by
  unfold endO
  rcases fol_cases (os := os) os.length a with e | ⟨q, h1, h2⟩
  · have e2 : folOf os a = -1 := e
    rw [e2, if_pos (by decide)]; exact .inl ⟨rfl, rfl⟩
  · have := (ob_pos h1).1
    rw [if_neg (by unfold folOf; omega)]; exact .inr ⟨q, h1, h2, rfl⟩
theorem endO_valid {os : List Ob} {a : Int} (h : Vd os a) : Vd os (endO os a) := by
  rcases endO_cases h with ⟨_, e⟩ | ⟨q, h1, _⟩
  · rw [e]; exact h
  · exact ⟨q, h1⟩
theorem fol_self {os : List Ob} {a : Int} {q : Ob} (h : ob os a = some q) (ht : q.tag ≠ 5) : folOf os a = a := by
  unfold folOf fol; rw [h]; simp only [if_neg ht]
theorem endO_self {os : List Ob} {a : Int} {q : Ob} (h : ob os a = some q) (ht : q.tag ≠ 5) : endO os a = a := by
  unfold endO; rw [fol_self h ht]; simp
theorem endO_idem {os : List Ob} {a : Int} (h : Vd os a) : endO os (endO os a) = endO os a := by
  rcases endO_cases h with ⟨_, e⟩ | ⟨q, h1, h2, _⟩
  · rw [e, e]
  · exact endO_self h1 h2
theorem shortO_end {os : List Ob} {a : Int} (h : Vd os a) : ∀ d, shortO os d (endO os a) = shortO os d a
  | 0 => by unfold shortO; exact endO_idem h
  | d + 1 => by simp only [shortO, endO_idem h]
theorem sel_ptr {os : List Ob} (hc : Closed os) (hk : Oks os) {e : Int} {q : Ob} (h : ob os e = some q) (ht : q.tag = 6) : ∃ p, ptrsOf os e = [p] ∧ Vd os p ∧ (numsOf os e = [0] ∨ numsOf os e = [1]) := by
  have hq := (hk q (ob_mem h)).shp.2.2.1 ht
  rw [ptrsOf_ob h, numsOf_ob h]
  obtain ⟨h1, h2⟩ := hq
  match hp : q.ptrs, h1 with
  | [p], _ => exact ⟨p, rfl, hc q (ob_mem h) p (by rw [hp]; simp), h2⟩
theorem con_ptr {os : List Ob} (hc : Closed os) (hk : Oks os) {e : Int} {q : Ob} (h : ob os e = some q) (ht : q.tag = 2) : ∃ p r, ptrsOf os e = [p, r] ∧ Vd os p ∧ Vd os r := by
  have hq := (hk q (ob_mem h)).shp.2.1 ht
  rw [ptrsOf_ob h]
  match hp : q.ptrs, hq with
  | [p, r], _ => exact ⟨p, r, rfl, hc q (ob_mem h) p (by rw [hp]; simp), hc q (ob_mem h) r (by rw [hp]; simp)⟩
theorem hdo_tag {os : List Ob} {a : Int} {q : Ob} (h : ob os a = some q) : (hdo os a).t = q.tag := by rw [hdo_ob h]; rfl
theorem shortO_valid {os : List Ob} (hc : Closed os) (hk : Oks os) : ∀ (d : Nat) {a : Int}, Vd os a → Vd os (shortO os d a)
  | 0, a, h => endO_valid h
  | d + 1, a, h => by
    unfold shortO
    split
    · rename_i h6
      split
      · rename_i h2
        obtain ⟨q, hq⟩ := endO_valid h
        rw [hdo_tag hq] at h6
        obtain ⟨p, e1, hp, e2⟩ := sel_ptr hc hk hq h6
        rw [e1] at h2 ⊢
        obtain ⟨r, hr⟩ := shortO_valid hc hk d hp
        simp only [List.headD_cons] at h2 ⊢
        rw [hdo_tag hr] at h2
        obtain ⟨x, y, e3, hx, hy⟩ := con_ptr hc hk hr h2
        rw [e3]
        rcases e2 with e | e <;> rw [e]
        · exact shortO_valid hc hk d hx
        · exact shortO_valid hc hk d hy
      · exact endO_valid h
    · exact endO_valid h
/-- Weights, summed up. -/
def sm (f : Int → Nat) : List Int → Nat
  | [] => 0
  | d :: D => f d + sm f D
theorem sm_app (f : Int → Nat) : ∀ D E, sm f (D ++ E) = sm f D + sm f E
  | [], E => by simp [sm]
  | d :: D, E => by simp only [List.cons_append, sm, sm_app f D E]; omega
theorem sm_filter (f : Int → Nat) (a : Int) : ∀ D : List Int, D.Nodup → sm f D ≤ f a + sm f (D.filter (fun x => decide (x ≠ a)))
  | [], _ => by simp [sm]
  | d :: D, h => by
    rw [List.nodup_cons] at h
    by_cases e : d = a
    · have e2 : D.filter (fun x => decide (x ≠ a)) = D := by
        rw [List.filter_eq_self]; intro x hx; simp; intro e3; exact h.1 (by rw [e, ← e3]; exact hx)
      rw [List.filter_cons_of_neg (by simpa using e), e2, e]; simp [sm]
    · have := sm_filter f a D h.2
      rw [List.filter_cons_of_pos (by simpa using e)]; simp only [sm]; omega
theorem sm_le (f : Int → Nat) : ∀ (A D : List Int), D.Nodup → (∀ d ∈ D, d ∈ A) → sm f D ≤ sm f A
  | [], D, _, h => by
    cases D with
    | nil => simp [sm]
    | cons d D => have := h d (by simp); cases this
  | a :: A, D, hn, h => by
    have h1 := sm_filter f a D hn
    have h2 := sm_le f A (D.filter (fun x => decide (x ≠ a))) (hn.filter _) (fun d hd => by
      rw [List.mem_filter] at hd
      rcases List.mem_cons.1 (h d hd.1) with e | e
      · have := hd.2; simp [e] at this
      · exact e)
    simp only [sm]; omega
theorem sm_one : ∀ D : List Int, sm (fun _ => 1) D = D.length
  | [] => rfl
  | d :: D => by simp only [sm, sm_one D, List.length_cons]; omega
/-- The words of a copy. -/
def sz (os : List Ob) (a : Int) : Nat := max 2 (1 + (ptrsOf os a).length + (numsOf os a).length)
theorem sz_le {os : List Ob} (hk : Oks os) {a : Int} {q : Ob} (h : ob os a = some q) : sz os a ≤ q.size := by
  have hq := hk q (ob_mem h)
  have h1 := hq.pn
  have h2 := hq.b1
  unfold sz
  rw [ptrsOf_ob h, numsOf_ob h]
  unfold Ob.ptrs Ob.nums Ob.size
  rw [List.length_take, List.length_take, List.length_drop]
  omega
theorem sm_adrs {os : List Ob} (hk : Oks os) : ∀ k, k ≤ os.length → sm (sz os) ((List.range k).map (fun i => (adr os i : Int))) ≤ adr os k
  | 0, _ => by simp [sm]
  | k + 1, h => by
    rw [List.range_succ, List.map_append, sm_app]
    have h1 := sm_adrs hk k (by omega)
    have h2 := adr_next (show k < os.length by omega)
    have h3 : ob os (adr os k : Nat) = some os[k] := ob_loc (loc_adr os k (by omega))
    have h4 := sz_le hk h3
    simp only [List.map_cons, List.map_nil, sm]
    omega
def adrL (os : List Ob) : List Int := (List.range os.length).map (fun i => (adr os i : Int))
theorem vd_mem {os : List Ob} {a : Int} (h : Vd os a) : a ∈ adrL os := by
  obtain ⟨q, hq⟩ := h
  obtain ⟨i, hi, _, e, _⟩ := ob_some hq
  exact List.mem_map.2 ⟨i, List.mem_range.2 hi, e.symm⟩
theorem mem_vd {os : List Ob} {a : Int} (h : a ∈ adrL os) : Vd os a := by
  obtain ⟨i, hi, rfl⟩ := List.mem_map.1 h
  exact ⟨_, ob_loc (loc_adr os i (List.mem_range.1 hi))⟩
theorem sm_total {os : List Ob} (hk : Oks os) {D : List Int} (hn : D.Nodup) (hv : ∀ d ∈ D, Vd os d) : sm (sz os) D ≤ total os := by
  have h1 := sm_le (sz os) (adrL os) D hn (fun d hd => vd_mem (hv d hd))
  have h2 := sm_adrs hk os.length (Nat.le_refl _)
  rw [adr_all] at h2
  unfold adrL at h1
  omega
theorem len_total {os : List Ob} {D : List Int} (hn : D.Nodup) (hv : ∀ d ∈ D, Vd os d) : D.length ≤ os.length := by
  have h1 := sm_le (fun _ => 1) (adrL os) D hn (fun d hd => vd_mem (hv d hd))
  rw [sm_one, sm_one] at h1
  simpa [adrL] using h1
/-- Where a copy comes to lie; behind all, if it isn't there. -/
def pos (os : List Ob) : List Int → Int → Nat
  | [], _ => 0
  | d :: D, a => if d = a then 0 else sz os d + pos os D a
theorem pos_app {os : List Ob} {a : Int} : ∀ {D : List Int} (E : List Int), a ∈ D → pos os (D ++ E) a = pos os D a
  | [], _, h => by cases h
  | d :: D, E, h => by
    simp only [List.cons_append, pos]
    by_cases e : d = a
    · rw [if_pos e, if_pos e]
    · rw [if_neg e, if_neg e, pos_app E (by rcases List.mem_cons.1 h with h | h; exact absurd h.symm e; exact h)]
theorem pos_none {os : List Ob} {a : Int} : ∀ {D : List Int}, a ∉ D → pos os D a = sm (sz os) D
  | [], _ => rfl
  | d :: D, h => by
    simp only [List.mem_cons, not_or] at h
    simp only [pos, sm, if_neg (Ne.symm h.1), pos_none h.2]
theorem pos_end {os : List Ob} {a : Int} : ∀ {D : List Int} (E : List Int), a ∉ D → pos os (D ++ a :: E) a = sm (sz os) D
  | [], _, _ => by simp [pos, sm]
  | d :: D, E, h => by
    simp only [List.mem_cons, not_or] at h
    simp only [List.cons_append, pos, sm, if_neg (Ne.symm h.1), pos_end E h.2]
def addD (D : List Int) (e : Int) : List Int := if e ∈ D then D else D ++ [e]
theorem addD_ext (D : List Int) (e : Int) : ∃ E, addD D e = D ++ E := by
  unfold addD; split
  · exact ⟨[], by simp⟩
  · exact ⟨[e], rfl⟩
theorem mem_addD {D : List Int} {e x : Int} : x ∈ addD D e ↔ x ∈ D ∨ x = e := by
  unfold addD; split
  · rename_i h; constructor
    · exact .inl
    · rintro (h1 | rfl); exact h1; exact h
  · simp
theorem addD_self (D : List Int) (e : Int) : e ∈ addD D e := mem_addD.2 (.inr rfl)
theorem nodup_addD {D : List Int} (h : D.Nodup) (e : Int) : (addD D e).Nodup := by
  unfold addD; split
  · exact h
  · rename_i h1
    rw [List.nodup_append]
    exact ⟨h, by simp, fun a ha b hb => by simp at hb; subst hb; exact fun e2 => h1 (e2 ▸ ha)⟩
theorem pos_addD {os : List Ob} (D : List Int) (e : Int) : pos os (addD D e) e = pos os D e := by
  unfold addD; split
  · rfl
  · rename_i h; rw [pos_end [] h, pos_none h]
def vis (os : List Ob) (dp : Nat) (D : List Int) : List Int → List Int
  | [] => D
  | a :: l => vis os dp (addD D (shortO os dp a)) l
theorem vis_ext (os : List Ob) (dp : Nat) : ∀ (l D : List Int), ∃ E, vis os dp D l = D ++ E
  | [], D => ⟨[], by simp [vis]⟩
  | a :: l, D => by
    obtain ⟨E, hE⟩ := vis_ext os dp l (addD D (shortO os dp a))
    obtain ⟨E2, h2⟩ := addD_ext D (shortO os dp a)
    exact ⟨E2 ++ E, by simp only [vis]; rw [hE, h2, List.append_assoc]⟩
theorem vis_snoc (os : List Ob) (dp : Nat) : ∀ (l D : List Int) (a : Int), vis os dp D (l ++ [a]) = addD (vis os dp D l) (shortO os dp a)
  | [], D, a => rfl
  | b :: l, D, a => by simp only [List.cons_append, vis]; exact vis_snoc os dp l _ a
theorem vis_mem (os : List Ob) (dp : Nat) : ∀ (l D : List Int) (x : Int), x ∈ vis os dp D l ↔ x ∈ D ∨ ∃ a ∈ l, x = shortO os dp a
  | [], D, x => by simp [vis]
  | b :: l, D, x => by
    simp only [vis, vis_mem os dp l, mem_addD, List.mem_cons, exists_eq_or_imp, or_assoc]
theorem vis_nodup (os : List Ob) (dp : Nat) : ∀ (l : List Int) {D : List Int}, D.Nodup → (vis os dp D l).Nodup
  | [], D, h => h
  | b :: l, D, h => vis_nodup os dp l (nodup_addD h _)
theorem vis_valid {os : List Ob} (hc : Closed os) (hk : Oks os) (dp : Nat) {l D : List Int} (hD : ∀ d ∈ D, Vd os d) (hl : ∀ a ∈ l, Vd os a) : ∀ d ∈ vis os dp D l, Vd os d := by
  intro d hd
  rcases (vis_mem os dp l D d).1 hd with h | ⟨a, ha, rfl⟩
  · exact hD d h
  · exact shortO_valid hc hk dp (hl a ha)
/-- What has been copied when the first k copies have had their turn. -/
def lead (os : List Ob) (dp : Nat) (D0 : List Int) : Nat → List Int
  | 0 => D0
  | k + 1 => match (lead os dp D0 k)[k]? with
    | some a => vis os dp (lead os dp D0 k) (ptrsOf os a)
    | none => lead os dp D0 k
theorem lead_some {os : List Ob} {dp : Nat} {D0 : List Int} {k : Nat} (h : k < (lead os dp D0 k).length) : lead os dp D0 (k + 1) = vis os dp (lead os dp D0 k) (ptrsOf os (lead os dp D0 k)[k]) := by
  simp only [lead, List.getElem?_eq_getElem h]
theorem lead_none {os : List Ob} {dp : Nat} {D0 : List Int} {k : Nat} (h : (lead os dp D0 k).length ≤ k) : lead os dp D0 (k + 1) = lead os dp D0 k := by
  simp only [lead, List.getElem?_eq_none h]
theorem lead_stop {os : List Ob} {dp : Nat} {D0 : List Int} {k : Nat} (h : (lead os dp D0 k).length ≤ k) : ∀ j, lead os dp D0 (k + j) = lead os dp D0 k
  | 0 => rfl
  | j + 1 => by
    have e := lead_stop h j
    rw [← Nat.add_assoc, lead_none (by rw [e]; omega), e]
theorem lead_step (os : List Ob) (dp : Nat) (D0 : List Int) (k : Nat) : ∃ E, lead os dp D0 (k + 1) = lead os dp D0 k ++ E := by
  by_cases h : k < (lead os dp D0 k).length
  · rw [lead_some h]; exact vis_ext _ _ _ _
  · exact ⟨[], by rw [lead_none (by omega)]; simp⟩
theorem lead_ext (os : List Ob) (dp : Nat) (D0 : List Int) (k : Nat) : ∀ j, ∃ E, lead os dp D0 (k + j) = lead os dp D0 k ++ E
  | 0 => ⟨[], by simp⟩
  | j + 1 => by
    obtain ⟨E, hE⟩ := lead_ext os dp D0 k j
    obtain ⟨E2, h2⟩ := lead_step os dp D0 (k + j)
    exact ⟨E ++ E2, by rw [← Nat.add_assoc, h2, hE, List.append_assoc]⟩
theorem ptrsOf_valid {os : List Ob} (hc : Closed os) {a : Int} : ∀ p ∈ ptrsOf os a, Vd os p := by
  intro p hp
  unfold ptrsOf at hp
  cases h : ob os a with
  | none => rw [h] at hp; cases hp
  | some o => rw [h] at hp; exact hc o (ob_mem h) p hp
theorem lead_good {os : List Ob} (hc : Closed os) (hk : Oks os) (dp : Nat) {D0 : List Int} (hn : D0.Nodup) (hv : ∀ d ∈ D0, Vd os d) : ∀ k, (lead os dp D0 k).Nodup ∧ ∀ d ∈ lead os dp D0 k, Vd os d
  | 0 => ⟨hn, hv⟩
  | k + 1 => by
    have ih := lead_good hc hk dp hn hv k
    by_cases h : k < (lead os dp D0 k).length
    · rw [lead_some h]
      exact ⟨vis_nodup _ _ _ ih.1, vis_valid hc hk dp ih.2 (ptrsOf_valid hc)⟩
    · rw [lead_none (by omega)]; exact ih
/-- All that is copied. -/
def allD (os : List Ob) (dp : Nat) (rs : List Int) : List Int := lead os dp (vis os dp [] rs) os.length
theorem allD_eq {os : List Ob} (hc : Closed os) (hk : Oks os) (dp : Nat) {rs : List Int} (hr : ∀ r ∈ rs, Vd os r) {k : Nat} (h : (lead os dp (vis os dp [] rs) k).length ≤ k) (hk2 : k ≤ os.length) : lead os dp (vis os dp [] rs) k = allD os dp rs := by
  obtain ⟨j, hj⟩ : ∃ j, os.length = k + j := ⟨os.length - k, by omega⟩
  unfold allD
  rw [hj, lead_stop h]
theorem allD_good {os : List Ob} (hc : Closed os) (hk : Oks os) (dp : Nat) {rs : List Int} (hr : ∀ r ∈ rs, Vd os r) : (allD os dp rs).Nodup ∧ ∀ d ∈ allD os dp rs, Vd os d :=
  lead_good hc hk dp (vis_nodup _ _ _ (by simp)) (vis_valid hc hk dp (by intro d hd; cases hd) hr) _
/-- Copies. -/
def cps (os : List Ob) (D : List Int) (Q : List (List Int)) : List Ob := List.zipWith (fun a ps => newO (hdo os a).t ps (numsOf os a)) D Q
inductive Lk (os : List Ob) : List Int → List (List Int) → Prop
  | nil : Lk os [] []
  | cons {d : Int} {D : List Int} {q : List Int} {Q : List (List Int)} : q.length = (ptrsOf os d).length → Lk os D Q → Lk os (d :: D) (q :: Q)
theorem Lk.len {os : List Ob} {D : List Int} {Q : List (List Int)} (h : Lk os D Q) : Q.length = D.length := by
  induction h with
  | nil => rfl
  | cons _ _ ih => simp [ih]
theorem Lk.app {os : List Ob} {D E : List Int} {Q R : List (List Int)} (h : Lk os D Q) (h2 : Lk os E R) : Lk os (D ++ E) (Q ++ R) := by
  induction h with
  | nil => exact h2
  | cons a _ ih => exact .cons a ih
theorem Lk.at {os : List Ob} {D : List Int} {Q : List (List Int)} (h : Lk os D Q) : ∀ i (hi : i < D.length) (hq : i < Q.length), Q[i].length = (ptrsOf os D[i]).length := by
  induction h with
  | nil => intro i hi; cases hi
  | cons a _ ih =>
    intro i hi hq
    cases i with
    | zero => exact a
    | succ i => exact ih i (by simpa using hi) (by simpa using hq)
theorem Lk.set {os : List Ob} {D : List Int} {Q : List (List Int)} (h : Lk os D Q) : ∀ (i : Nat) (q : List Int) (hi : i < D.length), q.length = (ptrsOf os D[i]).length → Lk os D (Q.set i q) := by
  induction h with
  | nil => intro i q hi; cases hi
  | cons a b ih =>
    intro i q hi hq
    cases i with
    | zero => exact .cons hq b
    | succ i => exact .cons a (ih i q (by simpa using hi) (by simpa using hq))
theorem cps_cons (os : List Ob) (d : Int) (D : List Int) (q : List Int) (Q : List (List Int)) : cps os (d :: D) (q :: Q) = newO (hdo os d).t q (numsOf os d) :: cps os D Q := rfl
theorem cps_len {os : List Ob} {D : List Int} {Q : List (List Int)} (h : Lk os D Q) : (cps os D Q).length = D.length := by
  unfold cps; rw [List.length_zipWith, h.len, Nat.min_self]
theorem cps_snoc {os : List Ob} {D : List Int} {Q : List (List Int)} (h : Lk os D Q) (e : Int) (q : List Int) : cps os (D ++ [e]) (Q ++ [q]) = cps os D Q ++ [newO (hdo os e).t q (numsOf os e)] := by
  unfold cps; rw [List.zipWith_append h.len.symm]; rfl
theorem cps_total {os : List Ob} {D : List Int} {Q : List (List Int)} (h : Lk os D Q) : total (cps os D Q) = sm (sz os) D := by
  induction h with
  | nil => rfl
  | cons a b ih => rw [cps_cons]; simp only [total, sm, ih, newO_size, sz, a]
theorem cps_pos {os : List Ob} {D : List Int} {Q : List (List Int)} (h : Lk os D Q) : D.Nodup → ∀ i (hi : i < D.length), adr (cps os D Q) i = pos os D D[i] := by
  induction h with
  | nil => intro _ i hi; cases hi
  | cons a b ih =>
    rename_i d D' q Q'
    intro hn i hi
    rw [List.nodup_cons] at hn
    cases i with
    | zero => simp [pos, adr, total]
    | succ i =>
      have hi' : i < D'.length := by simpa using hi
      rw [cps_cons, adr_succ, ih hn.2 i hi', newO_size, a]
      have hne : d ≠ D'[i] := fun e => hn.1 (by rw [e]; exact List.getElem_mem _)
      simp only [List.getElem_cons_succ, pos, if_neg hne]; rfl
theorem cps_at {os : List Ob} {D : List Int} {Q : List (List Int)} (h : Lk os D Q) (i : Nat) (hi : i < D.length) (hq : i < Q.length) (hc : i < (cps os D Q).length) : (cps os D Q)[i] = newO (hdo os D[i]).t Q[i] (numsOf os D[i]) := by
  simp only [cps, List.getElem_zipWith]
theorem cps_loc {os : List Ob} {D : List Int} {Q : List (List Int)} (h : Lk os D Q) (hn : D.Nodup) (i : Nat) (hi : i < D.length) : loc (cps os D Q) (pos os D D[i] : Nat) = some i := by
  rw [← cps_pos h hn i hi]; exact loc_adr _ i (by rw [cps_len h]; exact hi)
theorem newO_set (t : Nat) (ps ns : List Int) (j : Nat) (v : Int) (hj : j < ps.length) : setO (newO t ps ns) j v = newO t (ps.set j v) ns := by
  unfold setO newO
  simp only [List.length_set]
  congr 1
  rw [List.append_assoc, List.append_assoc, List.set_append_left _ _ hj]
theorem cps_set {os : List Ob} {D : List Int} {Q : List (List Int)} (h : Lk os D Q) (i : Nat) (hi : i < D.length) (hq : i < Q.length) (q : List Int) : cps os D (Q.set i q) = (cps os D Q).set i (newO (hdo os D[i]).t q (numsOf os D[i])) := by
  apply List.ext_getElem?
  intro k
  rw [List.getElem?_set]
  unfold cps
  rw [List.getElem?_zipWith, List.getElem?_set]
  by_cases e : i = k
  · subst e; simp [hi, hq]; try omega
  · rw [if_neg e, if_neg e, List.getElem?_zipWith]
/-- The copies' pointers, when all is done. -/
def finQ (os : List Ob) (dp : Nat) (D : List Int) : List (List Int) := D.map fun a => (ptrsOf os a).map fun p => (pos os D (shortO os dp p) : Int)
def gcO (os : List Ob) (dp : Nat) (rs : List Int) : List Ob := cps os (allD os dp rs) (finQ os dp (allD os dp rs))
def gcR (os : List Ob) (dp : Nat) (rs : List Int) : List Int := rs.map fun r => (pos os (allD os dp rs) (shortO os dp r) : Int)
end Go.Proofs.Ytkekekdkfjjifaa
namespace Go.Proofs.Ytkekekdkfjjifaa
set_option linter.unusedVariables false
set_option linter.unusedSimpArgs false
theorem lead_pre {os : List Ob} {dp : Nat} {D0 : List Int} {k : Nat} {j : Nat} (h : k < (lead os dp D0 (k + j)).length) : k < (lead os dp D0 k).length := by
  apply Decidable.byContradiction
  intro hn
  rw [lead_stop (by omega) j] at h
  exact hn h
theorem lead_at {os : List Ob} {dp : Nat} {D0 : List Int} {k j : Nat} {a : Int} (h : (lead os dp D0 (k + j))[k]? = some a) : (lead os dp D0 k)[k]? = some a := by
  have h1 := (List.getElem?_eq_some_iff.1 h).1
  have h2 := lead_pre h1
  obtain ⟨E, hE⟩ := lead_ext os dp D0 k j
  rw [hE, List.getElem?_append_left h2] at h
  exact h
/-- All that is copied, and what its pointers come to. -/
theorem allD_roots {os : List Ob} (dp : Nat) {rs : List Int} : ∀ r ∈ rs, shortO os dp r ∈ allD os dp rs := by
  intro r hr
  unfold allD
  obtain ⟨E, hE⟩ := lead_ext os dp (vis os dp [] rs) 0 os.length
  rw [Nat.zero_add] at hE
  rw [hE]
  exact List.mem_append_left _ ((vis_mem os dp rs [] _).2 (.inr ⟨r, hr, rfl⟩))
theorem allD_closed {os : List Ob} (hc : Closed os) (hk : Oks os) (dp : Nat) {rs : List Int} (hr : ∀ r ∈ rs, Vd os r) : ∀ a ∈ allD os dp rs, ∀ p ∈ ptrsOf os a, shortO os dp p ∈ allD os dp rs := by
  intro a ha p hp
  obtain ⟨k, hkl, e⟩ := List.getElem_of_mem ha
  have hg := allD_good hc hk dp hr
  have hlen := len_total hg.1 hg.2
  obtain ⟨j, hj⟩ : ∃ j, os.length = k + 1 + j := ⟨os.length - (k + 1), by omega⟩
  have h1 : (lead os dp (vis os dp [] rs) (k + (j + 1)))[k]? = some a := by
    rw [show k + (j + 1) = os.length by omega, ← e]
    exact List.getElem?_eq_getElem hkl
  have h2 := lead_at h1
  obtain ⟨h3, h4⟩ := List.getElem?_eq_some_iff.1 h2
  have h5 := lead_some h3
  rw [h4] at h5
  unfold allD
  rw [hj]
  obtain ⟨E, hE⟩ := lead_ext os dp (vis os dp [] rs) (k + 1) j
  rw [hE, h5]
  exact List.mem_append_left _ ((vis_mem _ _ _ _ _).2 (.inr ⟨p, hp, rfl⟩))
/-- Whatever holds of the roots' ends, and goes on along pointers, holds of all that is copied. -/
theorem lead_all {os : List Ob} {dp : Nat} {S : Int → Prop} (hS : ∀ a, S a → ∀ p ∈ ptrsOf os a, S (shortO os dp p)) {D0 : List Int} (h0 : ∀ a ∈ D0, S a) : ∀ k, ∀ a ∈ lead os dp D0 k, S a
  | 0 => h0
  | k + 1 => by
    have ih := lead_all hS h0 k
    by_cases h : k < (lead os dp D0 k).length
    · rw [lead_some h]
      intro a ha
      rcases (vis_mem _ _ _ _ _).1 ha with h1 | ⟨p, hp, rfl⟩
      · exact ih a h1
      · exact hS _ (ih _ (List.getElem_mem _)) p hp
    · rw [lead_none (by omega)]; exact ih
theorem allD_all {os : List Ob} {dp : Nat} {rs : List Int} {S : Int → Prop} (hS : ∀ a, S a → ∀ p ∈ ptrsOf os a, S (shortO os dp p)) (h0 : ∀ r ∈ rs, S (shortO os dp r)) : ∀ a ∈ allD os dp rs, S a :=
  lead_all hS (fun a ha => by
    rcases (vis_mem _ _ _ _ _).1 ha with h1 | ⟨p, hp, rfl⟩
    · cases h1
    · exact h0 p hp) _
theorem short_in {os : List Ob} (hc : Closed os) (hk : Oks os) {S : Int → Prop} (hS : ∀ a, S a → ∀ p ∈ ptrsOf os a, S (endO os p)) : ∀ (d : Nat) (p : Int), Vd os p → S (endO os p) → S (shortO os d p)
  | 0, p, _, h => h
  | d + 1, p, hv, h => by
    unfold shortO
    split
    · rename_i h6
      obtain ⟨q, hq⟩ := endO_valid hv
      rw [hdo_tag hq] at h6
      obtain ⟨x, e1, hx, e2⟩ := sel_ptr hc hk hq h6
      have h1 := short_in hc hk hS d x hx (hS _ h x (by rw [e1]; simp))
      rw [e1]
      show S (if (hdo os (shortO os d x)).t = 2 then shortO os d ((ptrsOf os (shortO os d x)).getD ((numsOf os (endO os p)).headD 0).toNat 0) else endO os p)
      by_cases h2 : (hdo os (shortO os d x)).t = 2
      · rw [if_pos h2]
        obtain ⟨r, hr⟩ := shortO_valid hc hk d hx
        rw [hdo_tag hr] at h2
        obtain ⟨y, z, e3, hy, hz⟩ := con_ptr hc hk hr h2
        rw [e3]
        rcases e2 with e | e <;> rw [e]
        · exact short_in hc hk hS d y hy (hS _ h1 y (by rw [e3]; simp))
        · exact short_in hc hk hS d z hz (hS _ h1 z (by rw [e3]; simp))
      · rw [if_neg h2]; exact h
    · exact h
theorem deeper_sub {os : List Ob} (hc : Closed os) (hk : Oks os) (dp : Nat) {rs : List Int} (hr : ∀ r ∈ rs, Vd os r) : ∀ a ∈ allD os dp rs, a ∈ allD os 0 rs := by
  have hS : ∀ a, a ∈ allD os 0 rs → ∀ p ∈ ptrsOf os a, endO os p ∈ allD os 0 rs := allD_closed hc hk 0 hr
  refine allD_all (S := fun a => a ∈ allD os 0 rs) (fun a ha p hp => ?_) (fun r h => ?_)
  · exact short_in hc hk hS dp p (ptrsOf_valid hc p hp) (hS a ha p hp)
  · exact short_in hc hk hS dp r (hr r h) (allD_roots 0 r h)
theorem finQ_lk (os : List Ob) (dp : Nat) (D : List Int) : ∀ E : List Int, Lk os E (E.map fun a => (ptrsOf os a).map fun p => (pos os D (shortO os dp p) : Int))
  | [] => .nil
  | a :: E => .cons (by rw [List.length_map]) (finQ_lk os dp D E)
theorem gcO_total (os : List Ob) (dp : Nat) (rs : List Int) : total (gcO os dp rs) = sm (sz os) (allD os dp rs) := cps_total (finQ_lk os dp _ _)
theorem gcO_less {os : List Ob} (hc : Closed os) (hk : Oks os) (dp : Nat) {rs : List Int} (hr : ∀ r ∈ rs, Vd os r) : total (gcO os dp rs) ≤ total (gcO os 0 rs) ∧ total (gcO os 0 rs) ≤ total os := by
  rw [gcO_total, gcO_total]
  have h1 := allD_good hc hk dp hr
  have h2 := allD_good hc hk 0 hr
  exact ⟨sm_le _ _ _ h1.1 (deeper_sub hc hk dp hr), sm_total hk h2.1 h2.2⟩
end Go.Proofs.Ytkekekdkfjjifaa
namespace Go.Proofs.Ytkekekdkfjjifaa
set_option linter.unusedVariables false
set_option linter.unusedSimpArgs false
theorem nxt_none_tag {os : List Ob} {a : Int} (h : Vd os a) (hn : nxt os a = none) : ∃ q, ob os a = some q ∧ q.tag ≠ 5 := by
  obtain ⟨q, hq⟩ := h
  refine ⟨q, hq, fun e => ?_⟩
  unfold nxt at hn
  rw [hq] at hn
  simp [e] at hn
theorem nxt_some_tag {os : List Ob} {a : Int} {q : Ob} (hq : ob os a = some q) (h : q.tag = 5) : nxt os a = some (q.body.headD 0) := by
  unfold nxt; rw [hq]; simp [h]
theorem led_cons {os : List Ob} {a b : Int} (h : nxt os a = some b) {j : Nat} (hl : ledTo os b j) : ledTo os a (j + 1) := by
  intro i hi
  cases i with
  | zero => show (nxt os a).isSome = true; rw [h]; rfl
  | succ i => rw [it_succ', h]; exact hl i (by omega)
theorem fol_led' {os : List Ob} (hc : Closed os) (hk : Oks os) {a : Int} (h : Vd os a) (hl : ∀ n, ledTo os a n) : folOf os a = -1 := fol_led hc hk _ a h (hl _)
theorem fol_step {os : List Ob} (hc : Closed os) (hk : Oks os) {a b : Int} (ha : Vd os a) (h : nxt os a = some b) : folOf os a = folOf os b := by
  have hb : Vd os b := hc.next hk h
  by_cases hx : ∃ j, ledTo os b j ∧ nxt os (it os j b) = none
  · obtain ⟨j, h1, h2⟩ := hx
    obtain ⟨q, hq⟩ := ha
    obtain ⟨r, hr⟩ := hb
    obtain ⟨s, hs, ht⟩ := nxt_none_tag (it_valid hc hk hr h1 j (Nat.le_refl _)) h2
    rw [fol_end hc hk hr h1 hs ht]
    have e : it os (j + 1) a = it os j b := by rw [it_succ', h]; rfl
    rw [← e]
    exact fol_end hc hk hq (led_cons h h1) (by rw [e]; exact hs) ht
  · have hall : ∀ n, ledTo os b n := by
      intro n
      induction n with
      | zero => intro i hi; omega
      | succ n ih =>
        intro i hi
        by_cases e : i < n
        · exact ih i e
        · obtain rfl : i = n := by omega
          cases hn : nxt os (it os i b) with
          | none => exact absurd ⟨i, ih, hn⟩ hx
          | some y => rfl
    rw [fol_led' hc hk hb hall, fol_led' hc hk ha]
    intro n
    cases n with
    | zero => intro i hi; omega
    | succ n => exact led_cons h (hall n)
theorem led_less {os : List Ob} {a : Int} {n m : Nat} (h : ledTo os a n) (hm : m ≤ n) : ledTo os a m := fun i hi => h i (by omega)
theorem it_vd {os : List Ob} (hc : Closed os) (hk : Oks os) {a : Int} (ha : Vd os a) {k : Nat} (hl : ledTo os a k) {i : Nat} (hi : i ≤ k) : Vd os (it os i a) := by
  obtain ⟨q, hq⟩ := ha
  exact it_valid hc hk hq hl i hi
theorem fol_it {os : List Ob} (hc : Closed os) (hk : Oks os) {a : Int} (ha : Vd os a) {k : Nat} (hl : ledTo os a k) : ∀ i, i ≤ k → folOf os (it os i a) = folOf os a
  | 0, _ => rfl
  | i + 1, h => by
    rw [← fol_it hc hk ha hl i (by omega)]
    have h1 := hl i (by omega)
    cases hn : nxt os (it os i a) with
    | none => rw [hn] at h1; cases h1
    | some b =>
      have e : it os (i + 1) a = b := by show (nxt os (it os i a)).getD 0 = b; rw [hn]; rfl
      rw [e]
      exact (fol_step hc hk (it_vd hc hk ha hl (by omega)) hn).symm
/-- Rows of marks: each of l is set to x. -/
def setAll (es : List Int) (x : Int → Int) : List Int → List Int
  | [] => es
  | a :: l => setAll (es.set a.toNat (x a)) x l
theorem setAll_len (x : Int → Int) : ∀ (l es : List Int), (setAll es x l).length = es.length
  | [], es => rfl
  | a :: l, es => by unfold setAll; rw [setAll_len x l]; simp
theorem setAll_snoc (x : Int → Int) : ∀ (l es : List Int) (a : Int), setAll es x (l ++ [a]) = (setAll es x l).set a.toNat (x a)
  | [], es, a => rfl
  | b :: l, es, a => by simp only [List.cons_append, setAll]; exact setAll_snoc x l _ a
theorem setAll_get (x : Int → Int) : ∀ (l es : List Int) (p : Nat), (∀ a ∈ l, 0 ≤ a ∧ a < es.length) → (setAll es x l)[p]? = if (p : Int) ∈ l then some (x p) else es[p]?
  | [], es, p, h => by simp [setAll]
  | a :: l, es, p, h => by
    unfold setAll
    rw [setAll_get x l _ p (fun b hb => by rw [List.length_set]; exact h b (by simp [hb])), List.getElem?_set]
    have ha := h a (by simp)
    by_cases h1 : (p : Int) ∈ l
    · rw [if_pos h1, if_pos (by simp [h1])]
    · rw [if_neg h1]
      by_cases h2 : a.toNat = p
      · have : (p : Int) = a := by omega
        rw [if_pos h2, if_pos (by omega), if_pos (by simp [this]), this]
      · rw [if_neg h2, if_neg (by simp only [List.mem_cons, not_or]; exact ⟨by omega, h1⟩)]
def EI (os : List Ob) (es : List Int) : Prop := ∀ (i : Nat) (v : Int), es[i]? = some v → Vd os i → v = -1 ∨ (v = endO os i ∧ (hdo os i).t = 5)
def PI (os : List Ob) (i : Nat) (l : List Int) : Prop := ∀ (d : Nat) (v : Int), l[d]? = some v → v = -1 ∨ v = shortO os d i
def rowOf (os : List Ob) (a : Int) (k : Nat) : List Int := (List.range k).map fun i => it os i a
theorem rowOf_len (os : List Ob) (a : Int) (k : Nat) : (rowOf os a k).length = k := by simp [rowOf]
theorem rowOf_snoc (os : List Ob) (a : Int) (k : Nat) : rowOf os a (k + 1) = rowOf os a k ++ [it os k a] := by unfold rowOf; rw [List.range_succ, List.map_append]; rfl
theorem mem_rowOf {os : List Ob} {a x : Int} {k : Nat} : x ∈ rowOf os a k ↔ ∃ i, i < k ∧ it os i a = x := by
  unfold rowOf; simp [List.mem_map, List.mem_range]
theorem vd_lt {os : List Ob} {a : Int} (h : Vd os a) : 0 ≤ a ∧ a < total os := by obtain ⟨q, hq⟩ := h; exact ob_pos hq
/-- The walk along what leads on. -/
structure Wk (os : List Ob) (es0 : List Int) (a : Int) (k : Nat) : Prop where
  led : ledTo os a k
  un : ∀ i, i < k → es0[(it os i a).toNat]? = some (-1)
  dif : ∀ i j, i < j → j < k → it os i a ≠ it os j a
theorem Wk.zero (os : List Ob) (es0 : List Int) (a : Int) : Wk os es0 a 0 := ⟨fun i hi => by omega, fun i hi => by omega, fun i j _ h => by omega⟩
theorem Wk.bound {os : List Ob} {es0 : List Int} {a : Int} {k : Nat} (h : Wk os es0 a k) (hc : Closed os) (hk : Oks os) (ha : Vd os a) : k ≤ os.length := by
  obtain ⟨q, hq⟩ := ha
  apply Decidable.byContradiction
  intro hn
  obtain ⟨i, j, h1, h2, h3⟩ := it_twice hc hk hq (led_less h.led (show os.length ≤ k by omega))
  exact h.dif i j h1 (by omega) h3
theorem Wk.rows {os : List Ob} {es0 : List Int} {a : Int} {k : Nat} (h : Wk os es0 a k) (hc : Closed os) (hk : Oks os) (ha : Vd os a) (hl : es0.length = total os) : ∀ x ∈ rowOf os a k, 0 ≤ x ∧ x < es0.length := by
  intro x hx
  obtain ⟨i, hi, rfl⟩ := mem_rowOf.1 hx
  rw [hl]
  exact vd_lt (it_vd hc hk ha h.led (by omega))
def mks (os : List Ob) (es0 : List Int) (a : Int) (k : Nat) : List Int := setAll es0 (fun x => x) (rowOf os a k)
/-- One more is marked. -/
theorem Wk.more {os : List Ob} {es0 : List Int} {a : Int} {k : Nat} (h : Wk os es0 a k) (hc : Closed os) (hk : Oks os) (ha : Vd os a) (hl : es0.length = total os) (ht : (hdo os (it os k a)).t = 5) (hu : (mks os es0 a k)[(it os k a).toNat]? = some (-1)) : Wk os es0 a (k + 1) := by
  have hv := it_vd hc hk ha h.led (Nat.le_refl k)
  have hp := vd_lt hv
  have h1 := setAll_get (fun x => x) (rowOf os a k) es0 (it os k a).toNat (h.rows hc hk ha hl)
  have e : (((it os k a).toNat : Nat) : Int) = it os k a := by omega
  unfold mks at hu
  rw [h1, e] at hu
  have hni : it os k a ∉ rowOf os a k := fun hm => by
    rw [if_pos hm] at hu
    injection hu with hu
    omega
  rw [if_neg hni] at hu
  refine ⟨fun i hi => ?_, fun i hi => ?_, fun i j q1 h2 e9 => ?_⟩
  · by_cases e : i < k
    · exact h.led i e
    · obtain rfl : i = k := by omega
      obtain ⟨q, hq⟩ := hv
      rw [hdo_tag hq] at ht
      rw [nxt_some_tag hq ht]; rfl
  · by_cases e : i < k
    · exact h.un i e
    · obtain rfl : i = k := by omega
      exact hu
  · by_cases e2 : j < k
    · exact h.dif i j q1 e2 e9
    · obtain rfl : j = k := by omega
      exact hni (mem_rowOf.2 ⟨i, q1, e9⟩)
theorem mks_more (os : List Ob) (es0 : List Int) (a : Int) (k : Nat) : mks os es0 a (k + 1) = (mks os es0 a k).set (it os k a).toNat (it os k a) := by
  unfold mks; rw [rowOf_snoc, setAll_snoc]
/-- Where the walk ends: what is told there. -/
theorem Wk.last {os : List Ob} {es0 : List Int} {a : Int} {k : Nat} (h : Wk os es0 a k) (hc : Closed os) (hk : Oks os) (ha : Vd os a) (hl : es0.length = total os) (hE : EI os es0) {v : Int} (ht : (hdo os (it os k a)).t = 5) (hv : (mks os es0 a k)[(it os k a).toNat]? = some v) (hn : v ≠ -1) :
    v = endO os (it os k a) := by
  have hvd := it_vd hc hk ha h.led (Nat.le_refl k)
  have hp := vd_lt hvd
  have h1 := setAll_get (fun x => x) (rowOf os a k) es0 (it os k a).toNat (h.rows hc hk ha hl)
  have e : (((it os k a).toNat : Nat) : Int) = it os k a := by omega
  unfold mks at hv
  rw [h1, e] at hv
  by_cases hm : it os k a ∈ rowOf os a k
  · rw [if_pos hm] at hv
    injection hv with hv
    obtain ⟨i, hi, e2⟩ := mem_rowOf.1 hm
    obtain ⟨q, hq⟩ := ha
    have h2 := fol_round hc hk hq hi e2.symm h.led
    have h3 := fol_it hc hk ⟨q, hq⟩ h.led k (Nat.le_refl k)
    rw [h2] at h3
    unfold endO
    rw [h3, if_pos (by decide)]; exact hv.symm
  · rw [if_neg hm] at hv
    rcases hE _ v hv (by rw [e]; exact hvd) with h2 | ⟨h2, _⟩
    · exact absurd h2 hn
    · rw [e] at h2; exact h2
/-- The rings stay. -/
theorem Wk.ring {os : List Ob} {es0 : List Int} {a : Int} {k : Nat} (h : Wk os es0 a k) (hc : Closed os) (hk : Oks os) (ha : Vd os a) (hl : es0.length = total os) (hE : EI os es0) (hf : (hdo os (endO os (it os k a))).t = 5) :
    endO os a = a ∧ EI os (mks os es0 a k) := by
  have hvd := it_vd hc hk ha h.led (Nat.le_refl k)
  have h0 : folOf os a = -1 := by
    rcases endO_cases hvd with ⟨e, _⟩ | ⟨q, hq, ht, _⟩
    · rw [← fol_it hc hk ha h.led k (Nat.le_refl k)]; exact e
    · rw [hdo_tag hq] at hf; exact absurd hf ht
  refine ⟨by unfold endO; rw [h0, if_pos (by decide)], fun i v hv hi => ?_⟩
  unfold mks at hv
  rw [setAll_get _ _ _ _ (h.rows hc hk ha hl)] at hv
  split at hv
  · rename_i hm
    injection hv with hv
    obtain ⟨j, hj, e⟩ := mem_rowOf.1 hm
    have h2 := fol_it hc hk ha h.led j (by omega)
    rw [e, h0] at h2
    refine .inr ⟨by unfold endO; rw [h2, if_pos (by decide)]; exact hv.symm, ?_⟩
    have h3 := h.led j hj
    rw [e, tag_nxt] at h3
    simpa using h3
  · exact hE i v hv hi
theorem Wk.out {os : List Ob} {es0 : List Int} {a : Int} {k : Nat} (h : Wk os es0 a k) (hc : Closed os) (hk : Oks os) (ha : Vd os a) (hl : es0.length = total os) (hE : EI os es0) (hf : (hdo os (endO os (it os k a))).t ≠ 5) :
    endO os a = endO os (it os k a) ∧ EI os (setAll (mks os es0 a k) (fun _ => endO os (it os k a)) (rowOf os a k)) := by
  have hvd := it_vd hc hk ha h.led (Nat.le_refl k)
  have hne : folOf os (it os k a) = endO os (it os k a) ∧ ¬ folOf os (it os k a) < 0 := by
    rcases endO_cases hvd with ⟨e, e2⟩ | ⟨q, hq, ht, e⟩
    · exfalso
      obtain ⟨r, hr⟩ := hvd
      rw [e2, hdo_tag hr] at hf
      rw [fol_self hr hf] at e
      have := (ob_pos hr).1
      omega
    · have := (ob_pos hq).1; exact ⟨e, by omega⟩
  have h1 := fol_it hc hk ha h.led k (Nat.le_refl k)
  refine ⟨by conv => lhs; unfold endO
             rw [← h1, if_neg hne.2, hne.1], fun i v hv hi => ?_⟩
  have hr := h.rows hc hk ha hl
  rw [setAll_get _ _ _ _ (by unfold mks; rw [setAll_len]; exact hr)] at hv
  split at hv
  · rename_i hm
    injection hv with hv
    obtain ⟨j, hj, e⟩ := mem_rowOf.1 hm
    have h2 := fol_it hc hk ha h.led j (by omega)
    rw [e, ← h1] at h2
    refine .inr ⟨by conv => rhs; unfold endO
                    rw [h2, if_neg hne.2, hne.1]; exact hv.symm, ?_⟩
    have h3 := h.led j hj
    rw [e, tag_nxt] at h3
    simpa using h3
  · rename_i hm
    unfold mks at hv
    rw [setAll_get _ _ _ _ hr, if_neg hm] at hv
    exact hE i v hv hi
end Go.Proofs.Ytkekekdkfjjifaa
namespace Go.Proofs.Ytkekekdkfjjifaa
set_option linter.unusedVariables false
set_option linter.unusedSimpArgs false
/-- Where an object of the old heap's came to lie. -/
def ph (os : List Ob) (dp : Nat) (rs : List Int) (a : Int) : Int := (pos os (allD os dp rs) a : Nat)
theorem gcO_len (os : List Ob) (dp : Nat) (rs : List Int) : (gcO os dp rs).length = (allD os dp rs).length := cps_len (finQ_lk os dp _ _)
theorem finQ_at (os : List Ob) (dp : Nat) (D : List Int) (i : Nat) (hi : i < D.length) (hq : i < (finQ os dp D).length) : (finQ os dp D)[i] = (ptrsOf os D[i]).map fun p => (pos os D (shortO os dp p) : Int) := by
  simp only [finQ, List.getElem_map]
theorem gcO_at {os : List Ob} (dp : Nat) (rs : List Int) (i : Nat) (hi : i < (allD os dp rs).length) (hc : i < (gcO os dp rs).length) :
    (gcO os dp rs)[i] = newO (hdo os (allD os dp rs)[i]).t ((ptrsOf os (allD os dp rs)[i]).map fun p => ph os dp rs (shortO os dp p)) (numsOf os (allD os dp rs)[i]) := by
  have hl := finQ_lk os dp (allD os dp rs) (allD os dp rs)
  have hq : i < (finQ os dp (allD os dp rs)).length := by unfold finQ; simpa using hi
  have := cps_at hl i hi hq hc
  refine this.trans ?_
  have e := finQ_at os dp (allD os dp rs) i hi hq
  exact congrArg (fun z => newO (hdo os (allD os dp rs)[i]).t z (numsOf os (allD os dp rs)[i])) e
theorem gcO_pos {os : List Ob} (hc : Closed os) (hk : Oks os) (dp : Nat) {rs : List Int} (hr : ∀ r ∈ rs, Vd os r) (i : Nat) (hi : i < (allD os dp rs).length) : (adr (gcO os dp rs) i : Int) = ph os dp rs (allD os dp rs)[i] := by
  have := cps_pos (finQ_lk os dp (allD os dp rs) (allD os dp rs)) (allD_good hc hk dp hr).1 i hi
  unfold ph
  rw [← this]; rfl
/-- The copy of an object that is copied. -/
theorem gcO_ob {os : List Ob} (hc : Closed os) (hk : Oks os) (dp : Nat) {rs : List Int} (hr : ∀ r ∈ rs, Vd os r) {a : Int} (ha : a ∈ allD os dp rs) :
    ob (gcO os dp rs) (ph os dp rs a) = some (newO (hdo os a).t ((ptrsOf os a).map fun p => ph os dp rs (shortO os dp p)) (numsOf os a)) := by
  obtain ⟨i, hi, rfl⟩ := List.getElem_of_mem ha
  have h1 : i < (gcO os dp rs).length := by rw [gcO_len]; exact hi
  rw [← gcO_pos hc hk dp hr i hi, ob_loc (loc_adr _ i h1), gcO_at dp rs i hi h1]
theorem gcO_vd {os : List Ob} (hc : Closed os) (hk : Oks os) (dp : Nat) {rs : List Int} (hr : ∀ r ∈ rs, Vd os r) {x : Int} (hx : Vd (gcO os dp rs) x) : ∃ a ∈ allD os dp rs, x = ph os dp rs a := by
  obtain ⟨q, hq⟩ := hx
  obtain ⟨i, hi, _, e, _⟩ := ob_some hq
  rw [gcO_len] at hi
  exact ⟨_, List.getElem_mem hi, by rw [e, gcO_pos hc hk dp hr i hi]⟩
theorem pos_inj {os : List Ob} {a b : Int} : ∀ {D : List Int}, a ∈ D → b ∈ D → pos os D a = pos os D b → a = b
  | [], h, _, _ => by cases h
  | d :: D, ha, hb, h => by
    have hs : 0 < sz os d := by unfold sz; omega
    simp only [pos] at h
    by_cases e1 : d = a
    · by_cases e2 : d = b
      · rw [← e1, ← e2]
      · rw [if_pos e1, if_neg e2] at h; omega
    · by_cases e2 : d = b
      · rw [if_neg e1, if_pos e2] at h; omega
      · rw [if_neg e1, if_neg e2] at h
        rcases List.mem_cons.1 ha with h1 | h1
        · exact absurd h1.symm e1
        · rcases List.mem_cons.1 hb with h2 | h2
          · exact absurd h2.symm e2
          · exact pos_inj (os := os) h1 h2 (by omega)
theorem ph_inj {os : List Ob} {dp : Nat} {rs : List Int} {a b : Int} (ha : a ∈ allD os dp rs) (hb : b ∈ allD os dp rs) (h : ph os dp rs a = ph os dp rs b) : a = b := pos_inj (os := os) ha hb (by unfold ph at h; omega)
/-- What is copied at depth 0 does not only lead on, or leads nowhere. -/
theorem short_end {os : List Ob} (hc : Closed os) (hk : Oks os) : ∀ (d : Nat) {a : Int}, Vd os a → endO os (shortO os d a) = shortO os d a
  | 0, a, h => endO_idem h
  | d + 1, a, h => by
    unfold shortO
    split
    · rename_i h6
      obtain ⟨q, hq⟩ := endO_valid h
      rw [hdo_tag hq] at h6
      obtain ⟨x, e1, hx, e2⟩ := sel_ptr hc hk hq h6
      rw [e1]
      show endO os (if (hdo os (shortO os d x)).t = 2 then shortO os d ((ptrsOf os (shortO os d x)).getD ((numsOf os (endO os a)).headD 0).toNat 0) else endO os a) = (if (hdo os (shortO os d x)).t = 2 then shortO os d ((ptrsOf os (shortO os d x)).getD ((numsOf os (endO os a)).headD 0).toNat 0) else endO os a)
      by_cases h2 : (hdo os (shortO os d x)).t = 2
      · rw [if_pos h2]
        obtain ⟨r, hr⟩ := shortO_valid hc hk d hx
        rw [hdo_tag hr] at h2
        obtain ⟨y, z, e3, hy, hz⟩ := con_ptr hc hk hr h2
        rw [e3]
        rcases e2 with e | e <;> rw [e]
        · exact short_end hc hk d hy
        · exact short_end hc hk d hz
      · rw [if_neg h2]; exact endO_idem h
    · exact endO_idem h
theorem allD_end {os : List Ob} (hc : Closed os) (hk : Oks os) (dp : Nat) {rs : List Int} (hr : ∀ r ∈ rs, Vd os r) : ∀ a ∈ allD os dp rs, endO os a = a := by
  intro a ha
  exact (allD_all (S := fun a => endO os a = a ∧ Vd os a) (fun a h p hp => ⟨short_end hc hk dp (ptrsOf_valid hc p hp), shortO_valid hc hk dp (ptrsOf_valid hc p hp)⟩) (fun r h => ⟨short_end hc hk dp (hr r h), shortO_valid hc hk dp (hr r h)⟩) a ha).1
/-- An end that only leads on leads to one that only leads on. -/
theorem ring_next {os : List Ob} (hc : Closed os) (hk : Oks os) {a : Int} {q : Ob} (hq : ob os a = some q) (ht : q.tag = 5) (he : endO os a = a) : ∃ p, ptrsOf os a = [p] ∧ (∃ r, ob os p = some r ∧ r.tag = 5) ∧ ∀ d, shortO os d p = p := by
  have hf : folOf os a = -1 := by
    rcases endO_cases ⟨q, hq⟩ with ⟨e, _⟩ | ⟨r, hr, hrt, _⟩
    · exact e
    · rw [he, hq] at hr; injection hr with hr; subst hr; exact absurd ht hrt
  have hl := (hk q (ob_mem hq)).shp.1 ht
  rw [ptrsOf_ob hq]
  match hp : q.ptrs, hl with
  | [p], _ =>
    have hv : Vd os p := hc q (ob_mem hq) p (by rw [hp]; simp)
    have hn : nxt os a = some p := by
      rw [nxt_some_tag hq ht]
      have h1 := (hk q (ob_mem hq)).ind ht
      unfold Ob.ptrs at hp
      rw [h1] at hp
      match hb : q.body, hp with
      | x :: l, hp => simp at hp; rw [hp]; rfl
    have h2 := fol_step hc hk ⟨q, hq⟩ hn
    rw [hf] at h2
    have he2 : endO os p = p := by unfold endO; rw [← h2, if_pos (by decide)]
    have hr5 : ∃ r, ob os p = some r ∧ r.tag = 5 := by
      obtain ⟨r, hr⟩ := hv
      refine ⟨r, hr, ?_⟩
      apply Decidable.byContradiction
      intro h3
      have h4 := fol_self hr h3
      rw [← h2] at h4
      have := (ob_pos hr).1
      omega
    refine ⟨p, rfl, hr5, fun d => ?_⟩
    obtain ⟨r, hr, hrt⟩ := hr5
    cases d with
    | zero => exact he2
    | succ d =>
      unfold shortO
      rw [he2, if_neg (by rw [hdo_tag hr]; omega)]
/-- In what is left nothing but rings only leads on. -/
theorem gc_end {os : List Ob} (hc : Closed os) (hk : Oks os) (dp : Nat) {rs : List Int} (hr : ∀ r ∈ rs, Vd os r) (hc' : Closed (gcO os dp rs)) (hk' : Oks (gcO os dp rs)) {x : Int} (hx : Vd (gcO os dp rs) x) : endO (gcO os dp rs) x = x := by
  obtain ⟨a, ha, rfl⟩ := gcO_vd hc hk dp hr hx
  obtain ⟨q, hq⟩ := (allD_good hc hk dp hr).2 a ha
  have hob := gcO_ob hc hk dp hr ha
  by_cases ht : q.tag = 5
  · have key : ∀ n, ∃ b ∈ allD os dp rs, it (gcO os dp rs) n (ph os dp rs a) = ph os dp rs b ∧ ∃ r, ob os b = some r ∧ r.tag = 5 := by
      intro n
      induction n with
      | zero => exact ⟨a, ha, rfl, q, hq, ht⟩
      | succ n ih =>
        obtain ⟨b, hb, e, r, hrb, hrt⟩ := ih
        obtain ⟨p, ep, ⟨r2, hr2, ht2⟩, hs⟩ := ring_next hc hk hrb hrt (allD_end hc hk dp hr b hb)
        have hpD := allD_closed hc hk dp hr b hb p (by rw [ep]; simp)
        rw [hs dp] at hpD
        refine ⟨p, hpD, ?_, r2, hr2, ht2⟩
        have h9 := gcO_ob hc hk dp hr hb
        rw [ep] at h9
        show (nxt (gcO os dp rs) (it (gcO os dp rs) n (ph os dp rs a))).getD 0 = _
        rw [e, nxt_some_tag h9 (by show (hdo os b).t = 5; rw [hdo_tag hrb]; exact hrt)]
        simp [newO, hs dp]
    have hl : ∀ n, ledTo (gcO os dp rs) (ph os dp rs a) n := by
      intro n i _
      obtain ⟨b, hb, e, r, hrb, hrt⟩ := key i
      rw [e, nxt_some_tag (gcO_ob hc hk dp hr hb) (by show (hdo os b).t = 5; rw [hdo_tag hrb]; exact hrt)]; rfl
    unfold endO
    rw [fol_led' hc' hk' hx hl, if_pos (by decide)]
  · exact endO_self hob (by show (hdo os a).t ≠ 5; rw [hdo_tag hq]; exact ht)
theorem gc_ptrs {os : List Ob} (hc : Closed os) (hk : Oks os) (dp : Nat) {rs : List Int} (hr : ∀ r ∈ rs, Vd os r) {a : Int} (ha : a ∈ allD os dp rs) : ptrsOf (gcO os dp rs) (ph os dp rs a) = (ptrsOf os a).map (fun p => ph os dp rs (shortO os dp p)) ∧ numsOf (gcO os dp rs) (ph os dp rs a) = numsOf os a ∧ (hdo (gcO os dp rs) (ph os dp rs a)).t = (hdo os a).t := by
  have h := gcO_ob hc hk dp hr ha
  exact ⟨by rw [ptrsOf_ob h, newO_ptrs], by rw [numsOf_ob h, newO_nums], by rw [hdo_tag h]; rfl⟩
theorem gc_sz {os : List Ob} (hc : Closed os) (hk : Oks os) (dp : Nat) {rs : List Int} (hr : ∀ r ∈ rs, Vd os r) {a : Int} (ha : a ∈ allD os dp rs) : sz (gcO os dp rs) (ph os dp rs a) = sz os a := by
  obtain ⟨h1, h2, _⟩ := gc_ptrs hc hk dp hr ha
  unfold sz; rw [h1, h2, List.length_map]
theorem gc_pos {os : List Ob} (hc : Closed os) (hk : Oks os) (dp : Nat) {rs : List Int} (hr : ∀ r ∈ rs, Vd os r) {a : Int} (ha : a ∈ allD os dp rs) : ∀ (D : List Int), (∀ d ∈ D, d ∈ allD os dp rs) → pos (gcO os dp rs) (D.map (ph os dp rs)) (ph os dp rs a) = pos os D a
  | [], _ => rfl
  | d :: D, h => by
    have hd := h d (by simp)
    simp only [List.map_cons, pos, gc_pos hc hk dp hr ha D (fun x hx => h x (by simp [hx])), gc_sz hc hk dp hr hd]
    by_cases e : d = a
    · rw [if_pos (by rw [e]), if_pos e]
    · rw [if_neg (fun e2 => e (ph_inj hd ha e2)), if_neg e]
theorem addD_map {os : List Ob} {dp : Nat} {rs : List Int} {D : List Int} (hD : ∀ d ∈ D, d ∈ allD os dp rs) {e : Int} (he : e ∈ allD os dp rs) : addD (D.map (ph os dp rs)) (ph os dp rs e) = (addD D e).map (ph os dp rs) := by
  unfold addD
  by_cases h : e ∈ D
  · rw [if_pos h, if_pos (List.mem_map.2 ⟨e, h, rfl⟩)]
  · rw [if_neg h, if_neg (fun h2 => by
      obtain ⟨y, hy, e2⟩ := List.mem_map.1 h2
      exact h (by rw [← ph_inj (hD y hy) he e2]; exact hy)), List.map_append]; rfl
theorem vis_map {os : List Ob} {dp : Nat} {rs : List Int} (hid : ∀ x, Vd (gcO os dp rs) x → endO (gcO os dp rs) x = x) (hvd : ∀ a ∈ allD os dp rs, Vd (gcO os dp rs) (ph os dp rs a)) : ∀ (l D : List Int), (∀ d ∈ D, d ∈ allD os dp rs) → (∀ p ∈ l, shortO os dp p ∈ allD os dp rs) →
    vis (gcO os dp rs) 0 (D.map (ph os dp rs)) (l.map fun p => ph os dp rs (shortO os dp p)) = (vis os dp D l).map (ph os dp rs)
  | [], D, _, _ => rfl
  | p :: l, D, hD, hl => by
    have hp := hl p (by simp)
    simp only [List.map_cons, vis]
    have e : shortO (gcO os dp rs) 0 (ph os dp rs (shortO os dp p)) = ph os dp rs (shortO os dp p) := hid _ (hvd _ hp)
    rw [e, addD_map hD hp]
    exact vis_map hid hvd l _ (fun d hd => by rcases mem_addD.1 hd with h | rfl; exact hD d h; exact hp) (fun q hq => hl q (by simp [hq]))
theorem lead_map {os : List Ob} (hc : Closed os) (hk : Oks os) (dp : Nat) {rs : List Int} (hr : ∀ r ∈ rs, Vd os r) (hid : ∀ x, Vd (gcO os dp rs) x → endO (gcO os dp rs) x = x) (hvd : ∀ a ∈ allD os dp rs, Vd (gcO os dp rs) (ph os dp rs a)) {D0 : List Int} (h0 : ∀ d ∈ D0, d ∈ allD os dp rs) :
    ∀ k, (∀ d ∈ lead os dp D0 k, d ∈ allD os dp rs) ∧ lead (gcO os dp rs) 0 (D0.map (ph os dp rs)) k = (lead os dp D0 k).map (ph os dp rs)
  | 0 => ⟨h0, rfl⟩
  | k + 1 => by
    obtain ⟨h1, h2⟩ := lead_map hc hk dp hr hid hvd h0 k
    by_cases h : k < (lead os dp D0 k).length
    · have h' : k < (lead (gcO os dp rs) 0 (D0.map (ph os dp rs)) k).length := by rw [h2, List.length_map]; exact h
      have hm := List.getElem_mem h
      have e : (lead (gcO os dp rs) 0 (D0.map (ph os dp rs)) k)[k] = ph os dp rs (lead os dp D0 k)[k] := by simp only [h2, List.getElem_map]
      rw [lead_some h, lead_some h', e, (gc_ptrs hc hk dp hr (h1 _ hm)).1, h2]
      refine ⟨fun d hd => ?_, vis_map hid hvd _ _ h1 (fun p hp => allD_closed hc hk dp hr _ (h1 _ hm) p hp)⟩
      rcases (vis_mem _ _ _ _ _).1 hd with h3 | ⟨p, hp, rfl⟩
      · exact h1 d h3
      · exact allD_closed hc hk dp hr _ (h1 _ hm) p hp
    · rw [lead_none (by omega), lead_none (by rw [h2, List.length_map]; omega)]; exact ⟨h1, h2⟩
theorem lead_long {os : List Ob} {dp : Nat} {D0 : List Int} (N k : Nat) (hk : k ≤ N) (h : (lead os dp D0 N).length ≤ k) : lead os dp D0 k = lead os dp D0 N := by
  obtain ⟨j, rfl⟩ : ∃ j, N = k + j := ⟨N - k, by omega⟩
  obtain ⟨E, hE⟩ := lead_ext os dp D0 k j
  have : (lead os dp D0 k).length ≤ k := by rw [hE, List.length_append] at h; omega
  exact (lead_stop this j).symm
/-- Collected again, all is as it was. -/
theorem gc_again {os : List Ob} (hc : Closed os) (hk : Oks os) (dp : Nat) {rs : List Int} (hr : ∀ r ∈ rs, Vd os r) (hc' : Closed (gcO os dp rs)) (hk' : Oks (gcO os dp rs)) :
    gcO (gcO os dp rs) 0 (gcR os dp rs) = gcO os dp rs ∧ gcR (gcO os dp rs) 0 (gcR os dp rs) = gcR os dp rs := by
  have hid := fun x hx => gc_end hc hk dp hr hc' hk' (x := x) hx
  have hvd : ∀ a ∈ allD os dp rs, Vd (gcO os dp rs) (ph os dp rs a) := fun a ha => ⟨_, gcO_ob hc hk dp hr ha⟩
  have hroot : gcR os dp rs = rs.map fun p => ph os dp rs (shortO os dp p) := rfl
  have hv0 : vis (gcO os dp rs) 0 [] (gcR os dp rs) = (vis os dp [] rs).map (ph os dp rs) := by
    rw [hroot]
    exact vis_map hid hvd rs [] (by simp) (fun p hp => allD_roots dp p hp)
  have h0 : ∀ d ∈ vis os dp [] rs, d ∈ allD os dp rs := fun d hd => by
    rcases (vis_mem _ _ _ _ _).1 hd with h3 | ⟨p, hp, rfl⟩
    · cases h3
    · exact allD_roots dp p hp
  have hg := allD_good hc hk dp hr
  have hlen := len_total hg.1 hg.2
  have hD : allD (gcO os dp rs) 0 (gcR os dp rs) = (allD os dp rs).map (ph os dp rs) := by
    have h1 := (lead_map hc hk dp hr hid hvd h0 (gcO os dp rs).length).2
    show lead (gcO os dp rs) 0 (vis (gcO os dp rs) 0 [] (gcR os dp rs)) (gcO os dp rs).length = _
    rw [hv0, h1]
    congr 1
    rw [gcO_len]
    exact lead_long os.length _ hlen (Nat.le_refl _)
  have hpos : ∀ a ∈ allD os dp rs, pos (gcO os dp rs) ((allD os dp rs).map (ph os dp rs)) (ph os dp rs a) = pos os (allD os dp rs) a := fun a ha => gc_pos hc hk dp hr ha _ (fun _ h => h)
  refine ⟨?_, ?_⟩
  · apply List.ext_getElem?
    intro i
    by_cases hi : i < (allD os dp rs).length
    · have hi2 : i < (allD (gcO os dp rs) 0 (gcR os dp rs)).length := by rw [hD, List.length_map]; exact hi
      have l1 : i < (gcO (gcO os dp rs) 0 (gcR os dp rs)).length := by rw [gcO_len]; exact hi2
      have l2 : i < (gcO os dp rs).length := by rw [gcO_len]; exact hi
      rw [List.getElem?_eq_getElem l1, List.getElem?_eq_getElem l2, gcO_at 0 _ i hi2 l1, gcO_at dp rs i hi l2]
      congr 1
      have e : (allD (gcO os dp rs) 0 (gcR os dp rs))[i] = ph os dp rs (allD os dp rs)[i] := by simp only [hD, List.getElem_map]
      have hm := List.getElem_mem hi
      obtain ⟨g1, g2, g3⟩ := gc_ptrs hc hk dp hr hm
      rw [e, g1, g2, g3, List.map_map]
      congr 1
      apply List.map_congr_left
      intro p hp
      have hp2 := allD_closed hc hk dp hr _ hm p hp
      show ((pos (gcO os dp rs) (allD (gcO os dp rs) 0 (gcR os dp rs)) (endO (gcO os dp rs) (ph os dp rs (shortO os dp p))) : Nat) : Int) = _
      rw [hid _ (hvd _ hp2), hD, hpos _ hp2]; rfl
    · rw [List.getElem?_eq_none (by rw [gcO_len, hD, List.length_map]; omega), List.getElem?_eq_none (by rw [gcO_len]; omega)]
  · rw [hroot]
    unfold gcR
    rw [List.map_map]
    apply List.map_congr_left
    intro p hp
    have hp2 := allD_roots (os := os) dp (rs := rs) p hp
    show ((pos (gcO os dp rs) (allD (gcO os dp rs) 0 (gcR os dp rs)) (endO (gcO os dp rs) (ph os dp rs (shortO os dp p))) : Nat) : Int) = _
    rw [hid _ (hvd _ hp2), hD, hpos _ hp2]; rfl
end Go.Proofs.Ytkekekdkfjjifaa
