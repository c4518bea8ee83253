/- Collecting: plain mathematics: what an address comes to, what is copied, where it comes to lie. -/
import Derived.Test.YtjecjlnkpbbanaaP13
namespace Go.Proofs.Ytjecjlnkpbbanaa
set_option linter.unusedVariables false
set_option linter.unusedSimpArgs false
def Vd (os : List Ob) (a : Int) : Prop := ∃ q, ob os a = some q
def endO (os : List Ob) (a : Int) : Int := if folOf os a < 0 then a else folOf os a
def shortO (os : List Ob) : Nat → Int → Int
  | 0, a => endO os a
  | d + 1, a =>
    if (hdo os (endO os a)).t = 6 then
      if (hdo os (shortO os d ((ptrsOf os (endO os a)).headD 0))).t = 2 then
        shortO os d ((ptrsOf os (shortO os d ((ptrsOf os (endO os a)).headD 0))).getD ((numsOf os (endO os a)).headD 0).toNat 0)
      else endO os a
    else endO os a
theorem hdo_ob {os : List Ob} {a : Int} {o : Ob} (h : ob os a = some o) : hdo os a = o.head := by unfold hdo; rw [h]
theorem ptrsOf_ob {os : List Ob} {a : Int} {o : Ob} (h : ob os a = some o) : ptrsOf os a = o.ptrs := by unfold ptrsOf; rw [h]
theorem numsOf_ob {os : List Ob} {a : Int} {o : Ob} (h : ob os a = some o) : numsOf os a = o.nums := by unfold numsOf; rw [h]
theorem fol_cases {os : List Ob} : ∀ (n : Nat) (a : Int), fol os n a = -1 ∨ ∃ q, ob os (fol os n a) = some q ∧ q.tag ≠ 5 := by
  intro n
  induction n with
  | zero =>
    intro a
    unfold fol
    cases h : ob os a with
    | none => exact .inl rfl
    | some o =>
      by_cases ht : o.tag = 5
      · simp [ht]
      · simp only [if_neg ht]; exact .inr ⟨o, h, ht⟩
  | succ n ih =>
    intro a
    unfold fol
    cases h : ob os a with
    | none => exact .inl rfl
    | some o =>
      by_cases ht : o.tag = 5
      · simp only [if_pos ht]; exact ih _
      · simp only [if_neg ht]; exact .inr ⟨o, h, ht⟩
theorem ob_pos {os : List Ob} {a : Int} {o : Ob} (h : ob os a = some o) : 0 ≤ a ∧ a < total os := by
  obtain ⟨i, hi, _, e, rfl⟩ := ob_some h
  have := adr_le hi
  have h2 : os[i].size = os[i].body.length + 1 := rfl
  omega
/-- The end: what does not only lead on; or the address itself. -/
theorem endO_cases {os : List Ob} {a : Int} (h : Vd os a) : (folOf os a = -1 ∧ endO os a = a) ∨ (∃ q, ob os (endO os a) = some q ∧ q.tag ≠ 5 ∧ folOf os a = endO os a) := by
  unfold endO
  rcases fol_cases (os := os) os.length a with e | ⟨q, h1, h2⟩
  · have e2 : folOf os a = -1 := e
    rw [e2, if_pos (by decide)]; exact .inl ⟨rfl, rfl⟩
  · have := (ob_pos h1).1
    rw [if_neg (by unfold folOf; omega)]; exact .inr ⟨q, h1, h2, rfl⟩
theorem endO_valid {os : List Ob} {a : Int} (h : Vd os a) : Vd os (endO os a) := by
  rcases endO_cases h with ⟨_, e⟩ | ⟨q, h1, _⟩
  · rw [e]; exact h
  · exact ⟨q, h1⟩
theorem fol_self {os : List Ob} {a : Int} {q : Ob} (h : ob os a = some q) (ht : q.tag ≠ 5) : folOf os a = a := by
  unfold folOf fol; rw [h]; simp only [if_neg ht]
theorem endO_self {os : List Ob} {a : Int} {q : Ob} (h : ob os a = some q) (ht : q.tag ≠ 5) : endO os a = a := by
  unfold endO; rw [fol_self h ht]; simp
theorem endO_idem {os : List Ob} {a : Int} (h : Vd os a) : endO os (endO os a) = endO os a := by
  rcases endO_cases h with ⟨_, e⟩ | ⟨q, h1, h2, _⟩
  · rw [e, e]
  · exact endO_self h1 h2
theorem shortO_end {os : List Ob} {a : Int} (h : Vd os a) : ∀ d, shortO os d (endO os a) = shortO os d a
  | 0 => by unfold shortO; exact endO_idem h
  | d + 1 => by simp only [shortO, endO_idem h]
theorem sel_ptr {os : List Ob} (hc : Closed os) (hk : Oks os) {e : Int} {q : Ob} (h : ob os e = some q) (ht : q.tag = 6) : ∃ p, ptrsOf os e = [p] ∧ Vd os p ∧ (numsOf os e = [0] ∨ numsOf os e = [1]) := by
  have hq := (hk q (ob_mem h)).shp.2.2.1 ht
  rw [ptrsOf_ob h, numsOf_ob h]
  obtain ⟨h1, h2⟩ := hq
  match hp : q.ptrs, h1 with
  | [p], _ => exact ⟨p, rfl, hc q (ob_mem h) p (by rw [hp]; simp), h2⟩
theorem con_ptr {os : List Ob} (hc : Closed os) (hk : Oks os) {e : Int} {q : Ob} (h : ob os e = some q) (ht : q.tag = 2) : ∃ p r, ptrsOf os e = [p, r] ∧ Vd os p ∧ Vd os r := by
  have hq := (hk q (ob_mem h)).shp.2.1 ht
  rw [ptrsOf_ob h]
  match hp : q.ptrs, hq with
  | [p, r], _ => exact ⟨p, r, rfl, hc q (ob_mem h) p (by rw [hp]; simp), hc q (ob_mem h) r (by rw [hp]; simp)⟩
theorem hdo_tag {os : List Ob} {a : Int} {q : Ob} (h : ob os a = some q) : (hdo os a).t = q.tag := by rw [hdo_ob h]; rfl
theorem shortO_valid {os : List Ob} (hc : Closed os) (hk : Oks os) : ∀ (d : Nat) {a : Int}, Vd os a → Vd os (shortO os d a)
  | 0, a, h => endO_valid h
  | d + 1, a, h => by
    unfold shortO
    split
    · rename_i h6
      split
      · rename_i h2
        obtain ⟨q, hq⟩ := endO_valid h
        rw [hdo_tag hq] at h6
        obtain ⟨p, e1, hp, e2⟩ := sel_ptr hc hk hq h6
        rw [e1] at h2 ⊢
        obtain ⟨r, hr⟩ := shortO_valid hc hk d hp
        simp only [List.headD_cons] at h2 ⊢
        rw [hdo_tag hr] at h2
        obtain ⟨x, y, e3, hx, hy⟩ := con_ptr hc hk hr h2
        rw [e3]
        rcases e2 with e | e <;> rw [e]
        · exact shortO_valid hc hk d hx
        · exact shortO_valid hc hk d hy
      · exact endO_valid h
    · exact endO_valid h
/-- Weights, summed up. -/
def sm (f : Int → Nat) : List Int → Nat
  | [] => 0
  | d :: D => f d + sm f D
theorem sm_app (f : Int → Nat) : ∀ D E, sm f (D ++ E) = sm f D + sm f E
  | [], E => by simp [sm]
  | d :: D, E => by simp only [List.cons_append, sm, sm_app f D E]; omega
theorem sm_filter (f : Int → Nat) (a : Int) : ∀ D : List Int, D.Nodup → sm f D ≤ f a + sm f (D.filter (fun x => decide (x ≠ a)))
  | [], _ => by simp [sm]
  | d :: D, h => by
    rw [List.nodup_cons] at h
    by_cases e : d = a
    · have e2 : D.filter (fun x => decide (x ≠ a)) = D := by
        rw [List.filter_eq_self]; intro x hx; simp; intro e3; exact h.1 (by rw [e, ← e3]; exact hx)
      rw [List.filter_cons_of_neg (by simpa using e), e2, e]; simp [sm]
    · have := sm_filter f a D h.2
      rw [List.filter_cons_of_pos (by simpa using e)]; simp only [sm]; omega
theorem sm_le (f : Int → Nat) : ∀ (A D : List Int), D.Nodup → (∀ d ∈ D, d ∈ A) → sm f D ≤ sm f A
  | [], D, _, h => by
    cases D with
    | nil => simp [sm]
    | cons d D => have := h d (by simp); cases this
  | a :: A, D, hn, h => by
    have h1 := sm_filter f a D hn
    have h2 := sm_le f A (D.filter (fun x => decide (x ≠ a))) (hn.filter _) (fun d hd => by
      rw [List.mem_filter] at hd
      rcases List.mem_cons.1 (h d hd.1) with e | e
      · have := hd.2; simp [e] at this
      · exact e)
    simp only [sm]; omega
theorem sm_one : ∀ D : List Int, sm (fun _ => 1) D = D.length
  | [] => rfl
  | d :: D => by simp only [sm, sm_one D, List.length_cons]; omega
/-- The words of a copy. -/
def sz (os : List Ob) (a : Int) : Nat := max 2 (1 + (ptrsOf os a).length + (numsOf os a).length)
theorem sz_le {os : List Ob} (hk : Oks os) {a : Int} {q : Ob} (h : ob os a = some q) : sz os a ≤ q.size := by
  have hq := hk q (ob_mem h)
  have h1 := hq.pn
  have h2 := hq.b1
  unfold sz
  rw [ptrsOf_ob h, numsOf_ob h]
  unfold Ob.ptrs Ob.nums Ob.size
  rw [List.length_take, List.length_take, List.length_drop]
  omega
theorem sm_adrs {os : List Ob} (hk : Oks os) : ∀ k, k ≤ os.length → sm (sz os) ((List.range k).map (fun i => (adr os i : Int))) ≤ adr os k
  | 0, _ => by simp [sm]
  | k + 1, h => by
    rw [List.range_succ, List.map_append, sm_app]
    have h1 := sm_adrs hk k (by omega)
    have h2 := adr_next (show k < os.length by omega)
    have h3 : ob os (adr os k : Nat) = some os[k] := ob_loc (loc_adr os k (by omega))
    have h4 := sz_le hk h3
    simp only [List.map_cons, List.map_nil, sm]
    omega
def adrL (os : List Ob) : List Int := (List.range os.length).map (fun i => (adr os i : Int))
theorem vd_mem {os : List Ob} {a : Int} (h : Vd os a) : a ∈ adrL os := by
  obtain ⟨q, hq⟩ := h
  obtain ⟨i, hi, _, e, _⟩ := ob_some hq
  exact List.mem_map.2 ⟨i, List.mem_range.2 hi, e.symm⟩
theorem mem_vd {os : List Ob} {a : Int} (h : a ∈ adrL os) : Vd os a := by
  obtain ⟨i, hi, rfl⟩ := List.mem_map.1 h
  exact ⟨_, ob_loc (loc_adr os i (List.mem_range.1 hi))⟩
theorem sm_total {os : List Ob} (hk : Oks os) {D : List Int} (hn : D.Nodup) (hv : ∀ d ∈ D, Vd os d) : sm (sz os) D ≤ total os := by
  have h1 := sm_le (sz os) (adrL os) D hn (fun d hd => vd_mem (hv d hd))
  have h2 := sm_adrs hk os.length (Nat.le_refl _)
  rw [adr_all] at h2
  unfold adrL at h1
  omega
theorem len_total {os : List Ob} {D : List Int} (hn : D.Nodup) (hv : ∀ d ∈ D, Vd os d) : D.length ≤ os.length := by
  have h1 := sm_le (fun _ => 1) (adrL os) D hn (fun d hd => vd_mem (hv d hd))
  rw [sm_one, sm_one] at h1
  simpa [adrL] using h1
/-- Where a copy comes to lie; behind all, if it isn't there. -/
def pos (os : List Ob) : List Int → Int → Nat
  | [], _ => 0
  | d :: D, a => if d = a then 0 else sz os d + pos os D a
theorem pos_app {os : List Ob} {a : Int} : ∀ {D : List Int} (E : List Int), a ∈ D → pos os (D ++ E) a = pos os D a
  | [], _, h => by cases h
  | d :: D, E, h => by
    simp only [List.cons_append, pos]
    by_cases e : d = a
    · rw [if_pos e, if_pos e]
    · rw [if_neg e, if_neg e, pos_app E (by rcases List.mem_cons.1 h with h | h; exact absurd h.symm e; exact h)]
theorem pos_none {os : List Ob} {a : Int} : ∀ {D : List Int}, a ∉ D → pos os D a = sm (sz os) D
  | [], _ => rfl
  | d :: D, h => by
    simp only [List.mem_cons, not_or] at h
    simp only [pos, sm, if_neg (Ne.symm h.1), pos_none h.2]
theorem pos_end {os : List Ob} {a : Int} : ∀ {D : List Int} (E : List Int), a ∉ D → pos os (D ++ a :: E) a = sm (sz os) D
  | [], _, _ => by simp [pos, sm]
  | d :: D, E, h => by
    simp only [List.mem_cons, not_or] at h
    simp only [List.cons_append, pos, sm, if_neg (Ne.symm h.1), pos_end E h.2]
def addD (D : List Int) (e : Int) : List Int := if e ∈ D then D else D ++ [e]
theorem addD_ext (D : List Int) (e : Int) : ∃ E, addD D e = D ++ E := by
  unfold addD; split
  · exact ⟨[], by simp⟩
  · exact ⟨[e], rfl⟩
theorem mem_addD {D : List Int} {e x : Int} : x ∈ addD D e ↔ x ∈ D ∨ x = e := by
  unfold addD; split
  · rename_i h; constructor
    · exact .inl
    · rintro (h1 | rfl); exact h1; exact h
  · simp
theorem addD_self (D : List Int) (e : Int) : e ∈ addD D e := mem_addD.2 (.inr rfl)
theorem nodup_addD {D : List Int} (h : D.Nodup) (e : Int) : (addD D e).Nodup := by
  unfold addD; split
  · exact h
  · rename_i h1
    rw [List.nodup_append]
    exact ⟨h, by simp, fun a ha b hb => by simp at hb; subst hb; exact fun e2 => h1 (e2 ▸ ha)⟩
theorem pos_addD {os : List Ob} (D : List Int) (e : Int) : pos os (addD D e) e = pos os D e := by
  unfold addD; split
  · rfl
  · rename_i h; rw [pos_end [] h, pos_none h]
def vis (os : List Ob) (dp : Nat) (D : List Int) : List Int → List Int
  | [] => D
  | a :: l => vis os dp (addD D (shortO os dp a)) l
theorem vis_ext (os : List Ob) (dp : Nat) : ∀ (l D : List Int), ∃ E, vis os dp D l = D ++ E
  | [], D => ⟨[], by simp [vis]⟩
  | a :: l, D => by
    obtain ⟨E, hE⟩ := vis_ext os dp l (addD D (shortO os dp a))
    obtain ⟨E2, h2⟩ := addD_ext D (shortO os dp a)
    exact ⟨E2 ++ E, by simp only [vis]; rw [hE, h2, List.append_assoc]⟩
theorem vis_snoc (os : List Ob) (dp : Nat) : ∀ (l D : List Int) (a : Int), vis os dp D (l ++ [a]) = addD (vis os dp D l) (shortO os dp a)
  | [], D, a => rfl
  | b :: l, D, a => by simp only [List.cons_append, vis]; exact vis_snoc os dp l _ a
theorem vis_mem (os : List Ob) (dp : Nat) : ∀ (l D : List Int) (x : Int), x ∈ vis os dp D l ↔ x ∈ D ∨ ∃ a ∈ l, x = shortO os dp a
  | [], D, x => by simp [vis]
  | b :: l, D, x => by
    simp only [vis, vis_mem os dp l, mem_addD, List.mem_cons, exists_eq_or_imp, or_assoc]
theorem vis_nodup (os : List Ob) (dp : Nat) : ∀ (l : List Int) {D : List Int}, D.Nodup → (vis os dp D l).Nodup
  | [], D, h => h
  | b :: l, D, h => vis_nodup os dp l (nodup_addD h _)
theorem vis_valid {os : List Ob} (hc : Closed os) (hk : Oks os) (dp : Nat) {l D : List Int} (hD : ∀ d ∈ D, Vd os d) (hl : ∀ a ∈ l, Vd os a) : ∀ d ∈ vis os dp D l, Vd os d := by
  intro d hd
  rcases (vis_mem os dp l D d).1 hd with h | ⟨a, ha, rfl⟩
  · exact hD d h
  · exact shortO_valid hc hk dp (hl a ha)
/-- What has been copied when the first k copies have had their turn. -/
def lead (os : List Ob) (dp : Nat) (D0 : List Int) : Nat → List Int
  | 0 => D0
  | k + 1 => match (lead os dp D0 k)[k]? with
    | some a => vis os dp (lead os dp D0 k) (ptrsOf os a)
    | none => lead os dp D0 k
theorem lead_some {os : List Ob} {dp : Nat} {D0 : List Int} {k : Nat} (h : k < (lead os dp D0 k).length) : lead os dp D0 (k + 1) = vis os dp (lead os dp D0 k) (ptrsOf os (lead os dp D0 k)[k]) := by
  simp only [lead, List.getElem?_eq_getElem h]
theorem lead_none {os : List Ob} {dp : Nat} {D0 : List Int} {k : Nat} (h : (lead os dp D0 k).length ≤ k) : lead os dp D0 (k + 1) = lead os dp D0 k := by
  simp only [lead, List.getElem?_eq_none h]
theorem lead_stop {os : List Ob} {dp : Nat} {D0 : List Int} {k : Nat} (h : (lead os dp D0 k).length ≤ k) : ∀ j, lead os dp D0 (k + j) = lead os dp D0 k
  | 0 => rfl
  | j + 1 => by
    have e := lead_stop h j
    rw [← Nat.add_assoc, lead_none (by rw [e]; omega), e]
theorem lead_step (os : List Ob) (dp : Nat) (D0 : List Int) (k : Nat) : ∃ E, lead os dp D0 (k + 1) = lead os dp D0 k ++ E := by
  by_cases h : k < (lead os dp D0 k).length
  · rw [lead_some h]; exact vis_ext _ _ _ _
  · exact ⟨[], by rw [lead_none (by omega)]; simp⟩
theorem lead_ext (os : List Ob) (dp : Nat) (D0 : List Int) (k : Nat) : ∀ j, ∃ E, lead os dp D0 (k + j) = lead os dp D0 k ++ E
  | 0 => ⟨[], by simp⟩
  | j + 1 => by
    obtain ⟨E, hE⟩ := lead_ext os dp D0 k j
    obtain ⟨E2, h2⟩ := lead_step os dp D0 (k + j)
    exact ⟨E ++ E2, by rw [← Nat.add_assoc, h2, hE, List.append_assoc]⟩
theorem ptrsOf_valid {os : List Ob} (hc : Closed os) {a : Int} : ∀ p ∈ ptrsOf os a, Vd os p := by
  intro p hp
  unfold ptrsOf at hp
  cases h : ob os a with
  | none => rw [h] at hp; cases hp
  | some o => rw [h] at hp; exact hc o (ob_mem h) p hp
theorem lead_good {os : List Ob} (hc : Closed os) (hk : Oks os) (dp : Nat) {D0 : List Int} (hn : D0.Nodup) (hv : ∀ d ∈ D0, Vd os d) : ∀ k, (lead os dp D0 k).Nodup ∧ ∀ d ∈ lead os dp D0 k, Vd os d
  | 0 => ⟨hn, hv⟩
  | k + 1 => by
    have ih := lead_good hc hk dp hn hv k
    by_cases h : k < (lead os dp D0 k).length
    · rw [lead_some h]
      exact ⟨vis_nodup _ _ _ ih.1, vis_valid hc hk dp ih.2 (ptrsOf_valid hc)⟩
    · rw [lead_none (by omega)]; exact ih
/-- All that is copied. -/
def allD (os : List Ob) (dp : Nat) (rs : List Int) : List Int := lead os dp (vis os dp [] rs) os.length
theorem allD_eq {os : List Ob} (hc : Closed os) (hk : Oks os) (dp : Nat) {rs : List Int} (hr : ∀ r ∈ rs, Vd os r) {k : Nat} (h : (lead os dp (vis os dp [] rs) k).length ≤ k) (hk2 : k ≤ os.length) : lead os dp (vis os dp [] rs) k = allD os dp rs := by
  obtain ⟨j, hj⟩ : ∃ j, os.length = k + j := ⟨os.length - k, by omega⟩
  unfold allD
  rw [hj, lead_stop h]
theorem allD_good {os : List Ob} (hc : Closed os) (hk : Oks os) (dp : Nat) {rs : List Int} (hr : ∀ r ∈ rs, Vd os r) : (allD os dp rs).Nodup ∧ ∀ d ∈ allD os dp rs, Vd os d :=
  lead_good hc hk dp (vis_nodup _ _ _ (by simp)) (vis_valid hc hk dp (by intro d hd; cases hd) hr) _
/-- Copies. -/
def cps (os : List Ob) (D : List Int) (Q : List (List Int)) : List Ob := List.zipWith (fun a ps => newO (hdo os a).t ps (numsOf os a)) D Q
inductive Lk (os : List Ob) : List Int → List (List Int) → Prop
  | nil : Lk os [] []
  | cons {d : Int} {D : List Int} {q : List Int} {Q : List (List Int)} : q.length = (ptrsOf os d).length → Lk os D Q → Lk os (d :: D) (q :: Q)
theorem Lk.len {os : List Ob} {D : List Int} {Q : List (List Int)} (h : Lk os D Q) : Q.length = D.length := by
  induction h with
  | nil => rfl
  | cons _ _ ih => simp [ih]
theorem Lk.app {os : List Ob} {D E : List Int} {Q R : List (List Int)} (h : Lk os D Q) (h2 : Lk os E R) : Lk os (D ++ E) (Q ++ R) := by
  induction h with
  | nil => exact h2
  | cons a _ ih => exact .cons a ih
theorem Lk.at {os : List Ob} {D : List Int} {Q : List (List Int)} (h : Lk os D Q) : ∀ i (hi : i < D.length) (hq : i < Q.length), Q[i].length = (ptrsOf os D[i]).length := by
  induction h with
  | nil => intro i hi; cases hi
  | cons a _ ih =>
    intro i hi hq
    cases i with
    | zero => exact a
    | succ i => exact ih i (by simpa using hi) (by simpa using hq)
theorem Lk.set {os : List Ob} {D : List Int} {Q : List (List Int)} (h : Lk os D Q) : ∀ (i : Nat) (q : List Int) (hi : i < D.length), q.length = (ptrsOf os D[i]).length → Lk os D (Q.set i q) := by
  induction h with
  | nil => intro i q hi; cases hi
  | cons a b ih =>
    intro i q hi hq
    cases i with
    | zero => exact .cons hq b
    | succ i => exact .cons a (ih i q (by simpa using hi) (by simpa using hq))
theorem cps_cons (os : List Ob) (d : Int) (D : List Int) (q : List Int) (Q : List (List Int)) : cps os (d :: D) (q :: Q) = newO (hdo os d).t q (numsOf os d) :: cps os D Q := rfl
theorem cps_len {os : List Ob} {D : List Int} {Q : List (List Int)} (h : Lk os D Q) : (cps os D Q).length = D.length := by
  unfold cps; rw [List.length_zipWith, h.len, Nat.min_self]
theorem cps_snoc {os : List Ob} {D : List Int} {Q : List (List Int)} (h : Lk os D Q) (e : Int) (q : List Int) : cps os (D ++ [e]) (Q ++ [q]) = cps os D Q ++ [newO (hdo os e).t q (numsOf os e)] := by
  unfold cps; rw [List.zipWith_append h.len.symm]; rfl
theorem cps_total {os : List Ob} {D : List Int} {Q : List (List Int)} (h : Lk os D Q) : total (cps os D Q) = sm (sz os) D := by
  induction h with
  | nil => rfl
  | cons a b ih => rw [cps_cons]; simp only [total, sm, ih, newO_size, sz, a]
theorem cps_pos {os : List Ob} {D : List Int} {Q : List (List Int)} (h : Lk os D Q) : D.Nodup → ∀ i (hi : i < D.length), adr (cps os D Q) i = pos os D D[i] := by
  induction h with
  | nil => intro _ i hi; cases hi
  | cons a b ih =>
    rename_i d D' q Q'
    intro hn i hi
    rw [List.nodup_cons] at hn
    cases i with
    | zero => simp [pos, adr, total]
    | succ i =>
      have hi' : i < D'.length := by simpa using hi
      rw [cps_cons, adr_succ, ih hn.2 i hi', newO_size, a]
      have hne : d ≠ D'[i] := fun e => hn.1 (by rw [e]; exact List.getElem_mem _)
      simp only [List.getElem_cons_succ, pos, if_neg hne]; rfl
theorem cps_at {os : List Ob} {D : List Int} {Q : List (List Int)} (h : Lk os D Q) (i : Nat) (hi : i < D.length) (hq : i < Q.length) (hc : i < (cps os D Q).length) : (cps os D Q)[i] = newO (hdo os D[i]).t Q[i] (numsOf os D[i]) := by
  simp only [cps, List.getElem_zipWith]
theorem cps_loc {os : List Ob} {D : List Int} {Q : List (List Int)} (h : Lk os D Q) (hn : D.Nodup) (i : Nat) (hi : i < D.length) : loc (cps os D Q) (pos os D D[i] : Nat) = some i := by
  rw [← cps_pos h hn i hi]; exact loc_adr _ i (by rw [cps_len h]; exact hi)
theorem newO_set (t : Nat) (ps ns : List Int) (j : Nat) (v : Int) (hj : j < ps.length) : setO (newO t ps ns) j v = newO t (ps.set j v) ns := by
  unfold setO newO
  simp only [List.length_set]
  congr 1
  rw [List.append_assoc, List.append_assoc, List.set_append_left _ _ hj]
theorem cps_set {os : List Ob} {D : List Int} {Q : List (List Int)} (h : Lk os D Q) (i : Nat) (hi : i < D.length) (hq : i < Q.length) (q : List Int) : cps os D (Q.set i q) = (cps os D Q).set i (newO (hdo os D[i]).t q (numsOf os D[i])) := by
  apply List.ext_getElem?
  intro k
  rw [List.getElem?_set]
  unfold cps
  rw [List.getElem?_zipWith, List.getElem?_set]
  by_cases e : i = k
  · subst e; simp [hi, hq]; try omega
  · rw [if_neg e, if_neg e, List.getElem?_zipWith]
/-- The copies' pointers, when all is done. -/
def finQ (os : List Ob) (dp : Nat) (D : List Int) : List (List Int) := D.map fun a => (ptrsOf os a).map fun p => (pos os D (shortO os dp p) : Int)
def gcO (os : List Ob) (dp : Nat) (rs : List Int) : List Ob := cps os (allD os dp rs) (finQ os dp (allD os dp rs))
def gcR (os : List Ob) (dp : Nat) (rs : List Int) : List Int := rs.map fun r => (pos os (allD os dp rs) (shortO os dp r) : Int)
end Go.Proofs.Ytjecjlnkpbbanaa
