/- Heaps: one object turned, one more; following what leads on. -/
import Derived.Test.YtjecjlnkpbbanaaM1
namespace Go.Proofs.Ytjecjlnkpbbanaa
set_option linter.unusedVariables false
set_option linter.unusedSimpArgs false
theorem set_split {os : List Ob} {i : Nat} (h : i < os.length) (o : Ob) : os.set i o = os.take i ++ o :: os.drop (i + 1) := List.set_eq_take_append_cons_drop.trans (if_pos h)
theorem wds_setk {os : List Ob} {i : Nat} (h : i < os.length) (o : Ob) (k : Nat) (x : Wd) (hk : k < os[i].size) (e : o.wds = os[i].wds.set k x) : wds (os.set i o) = (wds os).set (adr os i + k) x := by
  have e1 : wds os = wds (os.take i) ++ (os[i].wds ++ wds (os.drop (i + 1))) := by
    conv => lhs; rw [split_at h]
    rw [wds_append, wds_cons]
  have hl : (wds (os.take i)).length = adr os i := wds_length _
  have hw := os[i].wds_length
  rw [set_split h, wds_append, wds_cons, e, e1, List.set_append_right _ _ (by omega), hl, show adr os i + k - adr os i = k by omega, List.set_append_left _ _ (by omega)]
theorem total_set {os : List Ob} {i : Nat} (h : i < os.length) {o : Ob} (e : o.body.length = os[i].body.length) : total (os.set i o) = total os := by
  rw [set_split h]
  conv => rhs; rw [split_at h]
  rw [total_append, total_append]
  simp only [total, Ob.size, e]
theorem loc_set : ∀ {os : List Ob} {i : Nat} (h : i < os.length) {o : Ob} (e : o.body.length = os[i].body.length) (a : Int), loc (os.set i o) a = loc os a
  | p :: l, 0, h, o, e, a => by
    have e2 : o.size = p.size := by unfold Ob.size; rw [e]; rfl
    simp only [List.set_cons_zero, loc, e2]
  | p :: l, i + 1, h, o, e, a => by
    simp only [List.set_cons_succ, loc]
    rw [loc_set (show i < l.length by simpa using h) (by simpa using e)]
theorem adr_set {os : List Ob} {i : Nat} (h : i < os.length) {o : Ob} (e : o.body.length = os[i].body.length) (j : Nat) (hj : j < os.length) : adr (os.set i o) j = adr os j := by
  have h1 := loc_set h e (adr os j)
  rw [loc_adr os j hj] at h1
  have := (loc_some h1).2
  omega
/-- A pointer is set. -/
def setO (o : Ob) (j : Nat) (v : Int) : Ob := { o with body := o.body.set j v }
/-- Written over. -/
def overO (o : Ob) (v : Int) : Ob := ⟨5, 1, 0, o.body.set 0 v⟩
theorem wds_setO {os : List Ob} {i : Nat} (h : i < os.length) (j : Nat) (v : Int) (hj : j < os[i].body.length) : wds (os.set i (setO os[i] j v)) = (wds os).set (adr os i + 1 + j) ⟨0, 0, 0, 0, v⟩ := by
  rw [wds_setk h (setO os[i] j v) (j + 1) ⟨0, 0, 0, 0, v⟩ (by unfold Ob.size; omega)]
  · congr 1; omega
  · simp [setO, Ob.wds, Ob.head, Ob.size, List.map_set]
theorem wds_overO {os : List Ob} {i : Nat} (h : i < os.length) (v : Int) (hj : 0 < os[i].body.length) :
    wds (os.set i (overO os[i] v)) = ((wds os).set (adr os i) ⟨5, 1, 0, os[i].size, 0⟩).set (adr os i + 1) ⟨0, 0, 0, 0, v⟩ := by
  have e1 := wds_setk h ⟨5, 1, 0, os[i].body⟩ 0 ⟨5, 1, 0, os[i].size, 0⟩ (by unfold Ob.size; omega) (by simp [Ob.wds, Ob.head, Ob.size])
  have h2 : i < (os.set i ⟨5, 1, 0, os[i].body⟩).length := by simpa using h
  have e3 : (os.set i ⟨5, 1, 0, os[i].body⟩)[i] = (⟨5, 1, 0, os[i].body⟩ : Ob) := by simp
  have e2 := wds_setO h2 0 v (by rw [e3]; exact hj)
  rw [e3, adr_set (o := ⟨5, 1, 0, os[i].body⟩) h rfl i h, e1] at e2
  rw [List.set_set] at e2
  simpa [setO, overO] using e2
theorem setO_ok {o : Ob} (h : o.Ok) (j : Nat) (v : Int) (hj : j < o.np) : (setO o j v).Ok := ⟨h.t1, h.t2, h.p, h.n, by simpa [setO] using h.pn, by simpa [setO] using h.b1, by simpa [setO] using h.b2, by
  have e1 : (setO o j v).ptrs = o.ptrs.set j v := by simp only [setO, Ob.ptrs]; rw [List.take_set]
  have e2 : (setO o j v).nums = o.nums := by simp only [setO, Ob.nums]; rw [List.drop_set_of_lt hj]
  rw [e1, e2]
  exact ⟨fun e => by rw [List.length_set]; exact h.shp.1 e, fun e => by rw [List.length_set]; exact h.shp.2.1 e, fun e => by rw [List.length_set]; exact h.shp.2.2.1 e, h.shp.2.2.2⟩⟩
theorem overO_ok {o : Ob} (h : o.Ok) (v : Int) : (overO o v).Ok := ⟨by simp [overO], by simp [overO], by simp [overO], by simp [overO], by simpa [overO] using h.b1, by simpa [overO] using h.b1, by simpa [overO] using h.b2, ⟨fun _ => by have := h.b1; simp [overO, Ob.ptrs]; omega, fun e => by simp [overO] at e, fun e => by simp [overO] at e, fun _ => by simp [overO, Ob.nums]⟩⟩
theorem oks_set {os : List Ob} (h : Oks os) {i : Nat} {o : Ob} (ho : o.Ok) : Oks (os.set i o) := by
  intro x hx
  rcases List.mem_or_eq_of_mem_set hx with h1 | rfl
  · exact h x h1
  · exact ho
theorem oks_snoc {os : List Ob} (h : Oks os) {o : Ob} (ho : o.Ok) : Oks (os ++ [o]) := by
  intro x hx
  simp at hx
  rcases hx with h1 | rfl
  · exact h x h1
  · exact ho
/-- A new object. -/
def newO (t : Nat) (ps ns : List Int) : Ob := ⟨t, ps.length, ns.length, (ps ++ ns) ++ List.replicate (1 - (ps.length + ns.length)) 0⟩
theorem newO_len (t : Nat) (ps ns : List Int) : (newO t ps ns).body.length = max 1 (ps.length + ns.length) := by simp [newO]; omega
theorem newO_size (t : Nat) (ps ns : List Int) : (newO t ps ns).size = max 2 (1 + ps.length + ns.length) := by unfold Ob.size; rw [newO_len]; omega
theorem newO_ptrs (t : Nat) (ps ns : List Int) : (newO t ps ns).ptrs = ps := by simp [newO, Ob.ptrs]
theorem newO_nums (t : Nat) (ps ns : List Int) : (newO t ps ns).nums = ns := by simp [newO, Ob.nums]
theorem newO_ok {t : Nat} {ps ns : List Int} (h1 : 1 ≤ t) (h2 : t ≤ 7) (h3 : ps.length ≤ 60) (h4 : ns.length ≤ 60) (h5 : Shp t ps ns) : (newO t ps ns).Ok :=
  ⟨h1, h2, h3, h4, by rw [newO_len]; show ps.length + ns.length ≤ _; omega, by rw [newO_len]; omega, by rw [newO_len]; omega, by rw [newO_ptrs, newO_nums]; exact h5⟩
theorem loc_snoc : ∀ (os : List Ob) (o : Ob) (a : Int), loc (os ++ [o]) a = if a = total os then some os.length else loc os a
  | [], o, a => by
    show (if a = 0 then some 0 else (loc [] (a - o.size)).map (· + 1)) = if a = ((0 : Nat) : Int) then some 0 else none
    by_cases h : a = 0
    · rw [if_pos h, if_pos (by omega)]
    · rw [if_neg h, if_neg (by omega)]; rfl
  | p :: l, o, a => by
    have hs : p.size = p.body.length + 1 := rfl
    have ht : total (p :: l) = p.size + total l := rfl
    simp only [List.cons_append, loc, loc_snoc l o (a - p.size)]
    by_cases h0 : a = 0
    · rw [if_pos h0, if_pos h0, if_neg (by omega)]
    · rw [if_neg h0, if_neg h0]
      by_cases h1 : a - p.size = total l
      · rw [if_pos h1, if_pos (by omega)]; simp
      · rw [if_neg h1, if_neg (by omega)]
theorem adr_snoc (os : List Ob) (o : Ob) (i : Nat) (hi : i ≤ os.length) : adr (os ++ [o]) i = adr os i := by unfold adr; rw [List.take_append_of_le_length hi]
theorem ob_snoc (os : List Ob) (o : Ob) (a : Int) : ob (os ++ [o]) a = if a = total os then some o else ob os a := by
  unfold ob
  rw [loc_snoc]
  by_cases h : a = total os
  · rw [if_pos h, if_pos h]; simp
  · rw [if_neg h, if_neg h]
    cases h1 : loc os a with
    | none => rfl
    | some i => simp [List.getElem?_append_left (loc_some h1).1]
theorem ob_set {os : List Ob} {i : Nat} (h : i < os.length) {o : Ob} (e : o.body.length = os[i].body.length) (a : Int) : ob (os.set i o) a = if a = adr os i then some o else ob os a := by
  unfold ob
  rw [loc_set h e]
  by_cases h1 : a = adr os i
  · rw [if_pos h1, h1, loc_adr os i h]; simp [h]
  · rw [if_neg h1]
    cases h2 : loc os a with
    | none => rfl
    | some j =>
      have := loc_some h2
      have hne : i ≠ j := by rintro rfl; exact h1 this.2
      simp [List.getElem?_set_ne hne]
/-- All pointers are objects'. -/
def Closed (os : List Ob) : Prop := ∀ o ∈ os, ∀ p ∈ o.ptrs, ∃ q, ob os p = some q
/-- Does what is there only lead on; to what? -/
def nxt (os : List Ob) (a : Int) : Option Int := match ob os a with | some o => if o.tag = 5 then some (o.body.headD 0) else none | none => none
/-- What is there is followed, by so many steps at most. -/
def fol (os : List Ob) : Nat → Int → Int
  | n, a => match ob os a with
    | none => -1
    | some o => if o.tag = 5 then (match n with | 0 => -1 | n + 1 => fol os n (o.body.headD 0)) else a
def folOf (os : List Ob) (a : Int) : Int := fol os os.length a
/-- So many steps on. -/
def it (os : List Ob) : Nat → Int → Int
  | 0, a => a
  | n + 1, a => (nxt os (it os n a)).getD 0
def ledTo (os : List Ob) (a : Int) (n : Nat) : Prop := ∀ i, i < n → (nxt os (it os i a)).isSome = true
theorem pigeon : ∀ (N : Nat) (g : Nat → Nat), (∀ i, i ≤ N → g i < N) → ∃ i j, i < j ∧ j ≤ N ∧ g i = g j
  | 0, g, h => by have := h 0 (Nat.le_refl _); omega
  | N + 1, g, h => by
    by_cases hx : ∃ i, i ≤ N ∧ g i = g (N + 1)
    · obtain ⟨i, hi, e⟩ := hx; exact ⟨i, N + 1, by omega, Nat.le_refl _, e⟩
    · have hx' : ∀ i, i ≤ N → g i ≠ g (N + 1) := fun i hi e => hx ⟨i, hi, e⟩
      obtain ⟨i, j, h1, h2, h3⟩ := pigeon N (fun i => if g i = N then g (N + 1) else g i) (fun i hi => by
        have h4 := h i (by omega)
        have h5 := h (N + 1) (Nat.le_refl _)
        have h6 := hx' i hi
        show (if g i = N then g (N + 1) else g i) < N
        split
        · rename_i e; rw [e] at h6; omega
        · omega)
      refine ⟨i, j, h1, by omega, ?_⟩
      have a1 := hx' i (by omega)
      have a2 := hx' j h2
      split at h3 <;> split at h3 <;> omega
theorem it_succ' (os : List Ob) (n : Nat) (a : Int) : it os (n + 1) a = it os n ((nxt os a).getD 0) := by
  induction n with
  | zero => rfl
  | succ n ih => show (nxt os (it os (n + 1) a)).getD 0 = (nxt os (it os n _)).getD 0; rw [ih]
theorem it_add (os : List Ob) (n m : Nat) (a : Int) : it os (n + m) a = it os n (it os m a) := by
  induction n with
  | zero => simp [it]
  | succ n ih => rw [show n + 1 + m = (n + m) + 1 by omega]; show (nxt os (it os (n + m) a)).getD 0 = (nxt os (it os n (it os m a))).getD 0; rw [ih]
theorem nxt_some {os : List Ob} {a b : Int} (h : nxt os a = some b) : ∃ o, ob os a = some o ∧ o.tag = 5 ∧ b = o.body.headD 0 := by
  unfold nxt at h
  split at h
  · rename_i o ho
    split at h
    · rename_i ht; injection h with h; exact ⟨o, ho, ht, h.symm⟩
    · cases h
  · cases h
theorem Closed.next {os : List Ob} (hc : Closed os) (hk : Oks os) {a b : Int} (h : nxt os a = some b) : ∃ q, ob os b = some q := by
  obtain ⟨o, h1, h2, rfl⟩ := nxt_some h
  have ho := hk o (ob_mem h1)
  have h3 := ho.ind h2
  have h4 := ho.b1
  refine hc o (ob_mem h1) _ ?_
  unfold Ob.ptrs
  rw [h3]
  cases hb : o.body with
  | nil => rw [hb] at h4; simp at h4
  | cons x l => simp
theorem it_valid {os : List Ob} (hc : Closed os) (hk : Oks os) {a : Int} {q : Ob} (h0 : ob os a = some q) : ∀ {n : Nat}, ledTo os a n → ∀ i, i ≤ n → ∃ q, ob os (it os i a) = some q := by
  intro n hl i hi
  cases i with
  | zero => exact ⟨q, h0⟩
  | succ i =>
    have h1 := hl i (by omega)
    cases h2 : nxt os (it os i a) with
    | none => rw [h2] at h1; cases h1
    | some b => 
      have : it os (i + 1) a = b := by show (nxt os (it os i a)).getD 0 = b; rw [h2]; rfl
      rw [this]; exact hc.next hk h2
/-- Of more steps than there are objects two are at one place. -/
theorem it_twice {os : List Ob} (hc : Closed os) (hk : Oks os) {a : Int} {q : Ob} (h0 : ob os a = some q) (hl : ledTo os a os.length) : ∃ i j, i < j ∧ j ≤ os.length ∧ it os i a = it os j a := by
  have hv := fun i hi => it_valid hc hk h0 hl i hi
  obtain ⟨i, j, h1, h2, h3⟩ := pigeon os.length (fun i => (loc os (it os i a)).getD 0) (fun i hi => by
    obtain ⟨q, hq⟩ := hv i hi
    obtain ⟨k, hk, h4, _⟩ := ob_some hq
    show (loc os (it os i a)).getD 0 < _
    rw [h4]; exact hk)
  refine ⟨i, j, h1, h2, ?_⟩
  obtain ⟨q1, hq1⟩ := hv i (by omega)
  obtain ⟨k1, _, e1, e2, _⟩ := ob_some hq1
  obtain ⟨q2, hq2⟩ := hv j h2
  obtain ⟨k2, _, e3, e4, _⟩ := ob_some hq2
  simp only [e1, e3, Option.getD_some] at h3
  rw [e2, e4, h3]
theorem it_period {os : List Ob} {a : Int} {i d : Nat} (h : it os (i + d) a = it os i a) : ∀ n, i ≤ n → it os (n + d) a = it os n a := by
  intro n hn
  obtain ⟨m, rfl⟩ : ∃ m, n = m + i := ⟨n - i, by omega⟩
  rw [show m + i + d = m + (i + d) by omega, it_add os m (i + d), h, ← it_add]
theorem led_ever {os : List Ob} {a : Int} {i j : Nat} (hij : i < j) (h : it os j a = it os i a) (hl : ledTo os a j) : ∀ n, ledTo os a n := by
  have hp : ∀ n, i ≤ n → it os (n + (j - i)) a = it os n a := it_period (by rw [show i + (j - i) = j by omega]; exact h)
  have key : ∀ n, (nxt os (it os n a)).isSome = true := by
    intro n
    induction n using Nat.strongRecOn with
    | _ n ih =>
      by_cases hn : n < j
      · exact hl n hn
      · have e := hp (n - (j - i)) (by omega)
        rw [show n - (j - i) + (j - i) = n by omega] at e
        rw [e]; exact ih _ (by omega)
  exact fun n k _ => key k
theorem fol_led {os : List Ob} (hc : Closed os) (hk : Oks os) : ∀ (n : Nat) (a : Int), (∃ q, ob os a = some q) → ledTo os a (n + 1) → fol os n a = -1 := by
  intro n
  induction n with
  | zero =>
    rintro a ⟨q, hq⟩ h
    · have h1 := h 0 (by omega)
      cases h2 : nxt os (it os 0 a) with
      | none => rw [h2] at h1; cases h1
      | some b =>
        obtain ⟨o, e1, e2, _⟩ := nxt_some h2
        unfold fol
        have e3 : it os 0 a = a := rfl
        rw [e3] at e1
        rw [e1]; simp [e2]
  | succ n ih =>
    rintro a ⟨q, hq⟩ h
    · have h1 := h 0 (by omega)
      cases h2 : nxt os (it os 0 a) with
      | none => rw [h2] at h1; cases h1
      | some b =>
        have hb := hc.next hk h2
        obtain ⟨o, e1, e2, e4⟩ := nxt_some h2
        have e3 : it os 0 a = a := rfl
        rw [e3] at e1 h2
        have hl : ledTo os b (n + 1) := by
          intro i hi
          have := h (i + 1) (by omega)
          rw [it_succ', h2] at this; exact this
        have := ih b hb hl
        unfold fol
        rw [e1]; simp only [e2, if_pos]; rw [← e4]; exact this
/-- It comes round: it leads nowhere. -/
theorem fol_round {os : List Ob} (hc : Closed os) (hk : Oks os) {a : Int} {q : Ob} (h0 : ob os a = some q) {i j : Nat} (hij : i < j) (h : it os j a = it os i a) (hl : ledTo os a j) : folOf os a = -1 := by
  exact fol_led hc hk os.length a ⟨q, h0⟩ (led_ever hij h hl _)
theorem fol_end_aux {os : List Ob} : ∀ (j n : Nat) (a : Int), j ≤ n → ledTo os a j → (∃ q, ob os (it os j a) = some q ∧ q.tag ≠ 5) → fol os n a = it os j a
  | 0, n, a, _, _, ⟨q, h1, h2⟩ => by
    have e : it os 0 a = a := rfl
    rw [e] at h1 ⊢
    unfold fol; rw [h1]; simp [h2]
  | j + 1, n + 1, a, h, hl, hq => by
    have h1 := hl 0 (by omega)
    cases h2 : nxt os (it os 0 a) with
    | none => rw [h2] at h1; cases h1
    | some b =>
      obtain ⟨o, e1, e2, e4⟩ := nxt_some h2
      have e3 : it os 0 a = a := rfl
      rw [e3] at e1 h2
      have e5 : it os (j + 1) a = it os j b := by rw [it_succ', h2]; rfl
      rw [e5] at hq ⊢
      have hl2 : ledTo os b j := by
        intro i hi
        have := hl (i + 1) (by omega)
        rw [it_succ', h2] at this; exact this
      have := fol_end_aux j n b (by omega) hl2 hq
      unfold fol; rw [e1]; simp only [e2, if_pos]; rw [← e4]; exact this
theorem led_short {os : List Ob} (hc : Closed os) (hk : Oks os) {a : Int} {q : Ob} (h0 : ob os a = some q) {j : Nat} (hl : ledTo os a j) (hn : nxt os (it os j a) = none) : j < os.length := by
  apply Classical.byContradiction
  intro hge
  obtain ⟨i, k, h1, h2, h3⟩ := it_twice hc hk h0 (fun i hi => hl i (by omega))
  have := led_ever h1 h3.symm (fun i hi => hl i (by omega)) (j + 1) j (by omega)
  rw [hn] at this; cases this
/-- What does not lead on is found. -/
theorem fol_end {os : List Ob} (hc : Closed os) (hk : Oks os) {a : Int} {q : Ob} (h0 : ob os a = some q) {j : Nat} (hl : ledTo os a j) {r : Ob} (hr : ob os (it os j a) = some r) (ht : r.tag ≠ 5) : folOf os a = it os j a :=
  fol_end_aux j os.length a (Nat.le_of_lt (led_short hc hk h0 hl (by unfold nxt; rw [hr]; simp [ht]))) hl ⟨r, hr, ht⟩
/-- How far the one who holds may be ahead. -/
theorem held_bound {os : List Ob} (hc : Closed os) (hk : Oks os) {a : Int} {q : Ob} (h0 : ob os a = some q) {h s : Nat} (hl : ledTo os a (h + s)) (hd : ∀ i, h < i → i ≤ h + s → it os i a ≠ it os h a) (hh : os.length ≤ h) : s < os.length := by
  obtain ⟨i, k, h1, h2, h3⟩ := it_twice hc hk h0 (fun i hi => hl i (by omega))
  apply Classical.byContradiction
  intro hge
  have hp := it_period (os := os) (a := a) (i := i) (d := k - i) (by rw [show i + (k - i) = k by omega]; exact h3.symm) h (by omega)
  exact hd (h + (k - i)) (by omega) (by omega) hp
end Go.Proofs.Ytjecjlnkpbbanaa
