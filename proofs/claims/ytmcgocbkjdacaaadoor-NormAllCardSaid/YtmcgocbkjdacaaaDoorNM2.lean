/- Arguments by name: what norming keeps: right, fine, what is bound, what is free. -/
import Derived.Test.YtmcgocbkjdacaaaDoorNM
namespace Go.Proofs.YtmcgocbkjdacaaaDoor
open Go.RowKit Go.BigM
set_option linter.unusedVariables false
set_option linter.unusedSimpArgs false
/-- What holds of rows of parts when it holds of each. -/
theorem nrms_all {P Q : Et → Prop} (k : Int) (t : ByteArray) (hv : ∀ m, P (evar (pn m))) : ∀ (l : List Et), (∀ e ∈ l, ∀ n, P (e.nrm n).2) → ∀ (n i : Nat),
    (∀ e ∈ (Et.nrms k t n i l).2.1, P e) ∧ (∀ p ∈ (Et.nrms k t n i l).2.2, P p.2 ∧ ∃ m, n < m ∧ m ≤ (Et.nrms k t n i l).1 ∧ p.1 = pn m)
  | [], _, n, i => by simp [nrms_nil]
  | x :: l, h, n, i => by
    have hx := h x (by simp) n
    have hl := fun n => nrms_all (Q := Q) k t hv l (fun e he => h e (by simp [he])) n (i + 1)
    have hc := (nrm_f x n).cnt
    rw [nrms_cons]
    split
    · obtain ⟨h1, h2⟩ := hl ((x.nrm n).1 + 1)
      have hle := (nrms_f k t l (fun e _ => nrm_f e) ((x.nrm n).1 + 1) (i + 1)).1
      refine ⟨fun e he => ?_, fun p hp => ?_⟩
      · rcases List.mem_cons.1 he with rfl | he
        · exact hv _
        · exact h1 e he
      · rcases List.mem_cons.1 hp with rfl | hp
        · exact ⟨hx, _, by omega, by omega, rfl⟩
        · obtain ⟨a1, m, a2, a3, a4⟩ := h2 p hp
          exact ⟨a1, m, by omega, a3, a4⟩
    · obtain ⟨h1, h2⟩ := hl (x.nrm n).1
      refine ⟨fun e he => ?_, fun p hp => ?_⟩
      · rcases List.mem_cons.1 he with rfl | he
        · exact hx
        · exact h1 e he
      · obtain ⟨a1, m, a2, a3, a4⟩ := h2 p hp
        exact ⟨a1, m, by omega, a3, a4⟩
theorem evar_right (m : Nat) : (evar (pn m)).right num = true := by
  unfold evar
  rw [right_mk]
  simp [shapeB, textB, namesB, partsB, Et.rights, isEmpty_ne (pn_ne m)]
theorem ebind_right {s : ByteArray} {v e : Et} (hs : s ≠ ⟨#[]⟩) (hv : v.right num = true) (he : e.right num = true) : (ebind s v e).right num = true := by
  unfold ebind
  rw [right_mk]
  simp [shapeB, textB, namesB, partsB, Et.rights, hv, he, Once, hs, Lib.toList_data]
theorem lets_right : ∀ (l : List (ByteArray × Et)) (b : Et), (∀ p ∈ l, p.2.right num = true ∧ p.1 ≠ ⟨#[]⟩) → b.right num = true → (lets l b).right num = true
  | [], b, _, hb => hb
  | p :: l, b, h, hb => by
    have hp := h p (by simp)
    exact ebind_right hp.2 hp.1 (lets_right l b (fun q hq => h q (by simp [hq])) hb)
theorem nrm_right (e : Et) : e.right num = true → ∀ n, (e.nrm n).2.right num = true := by
  refine Et.induct (P := fun e => e.right num = true → ∀ n, (e.nrm n).2.right num = true) (fun k t ns a ih hr n => ?_) e
  rw [right_mk, Bool.and_eq_true] at hr
  have hra := (rights_all a).1 hr.2
  obtain ⟨h1, h2⟩ := nrms_all (P := fun e => e.right num = true) (Q := fun _ => True) k t evar_right a (fun e he n => ih e he (hra e he) n) n 0
  rw [nrm_mk]
  refine lets_right _ _ (fun p hp => ?_) ?_
  · obtain ⟨a1, m, _, _, a4⟩ := h2 p hp
    exact ⟨a1, by rw [a4]; exact pn_ne m⟩
  · rw [right_mk, nrms_len, hr.1, Bool.true_and]
    exact (rights_all _).2 h1
theorem lets_fine : ∀ (l : List (ByteArray × Et)) (b : Et), (∀ p ∈ l, p.2.fine ∧ p.1.size ≤ 100) → b.fine → (lets l b).fine
  | [], b, _, hb => hb
  | p :: l, b, h, hb => by
    have hp := h p (by simp)
    have hr := lets_fine l b (fun q hq => h q (by simp [hq])) hb
    show (ebind p.1 p.2 (lets l b)).fine
    unfold ebind
    rw [fine_mk]
    exact ⟨by decide, by simp, by simp; exact hp.2, by simp; exact ⟨hp.1, hr⟩⟩
theorem nrms_fine (k : Int) (t : ByteArray) : ∀ (l : List Et), (∀ e ∈ l, e.fine ∧ ∀ n, n + e.thick ≤ 1000000 → (e.nrm n).2.fine) → ∀ (n i : Nat), n + Et.thicks k t i l ≤ 1000000 →
    (∀ e ∈ (Et.nrms k t n i l).2.1, e.fine) ∧ (∀ p ∈ (Et.nrms k t n i l).2.2, p.2.fine ∧ p.1.size ≤ 100)
  | [], _, n, i, _ => by simp [nrms_nil]
  | x :: l, h, n, i, hn => by
    have hc := (nrm_f x n).cnt
    have ha := (nrm_f x n).atom
    rw [thicks_cons] at hn
    have hx := (h x (by simp)).2 n (by omega)
    have hl := fun n => nrms_fine k t l (fun e he => h e (by simp [he])) n (i + 1)
    rw [nrms_cons, ha]
    split
    · rename_i hif
      rw [if_pos hif] at hn
      obtain ⟨h1, h2⟩ := hl ((x.nrm n).1 + 1) (by omega)
      have hps : (pn ((x.nrm n).1 + 1)).size ≤ 100 := by have := pn_size ((x.nrm n).1 + 1) (by omega); omega
      refine ⟨fun e he => ?_, fun p hp => ?_⟩
      · rcases List.mem_cons.1 he with rfl | he
        · unfold evar
          rw [fine_mk]
          exact ⟨hps, by simp, by simp, by simp⟩
        · exact h1 e he
      · rcases List.mem_cons.1 hp with rfl | hp
        · exact ⟨hx, hps⟩
        · exact h2 p hp
    · obtain ⟨h1, h2⟩ := hl (x.nrm n).1 (by omega)
      refine ⟨fun e he => ?_, h2⟩
      rcases List.mem_cons.1 he with rfl | he
      · exact hx
      · exact h1 e he
theorem nrm_fine (e : Et) : e.fine → ∀ n, n + e.thick ≤ 1000000 → (e.nrm n).2.fine := by
  refine Et.induct (P := fun e => e.fine → ∀ n, n + e.thick ≤ 1000000 → (e.nrm n).2.fine) (fun k t ns a ih hf n hn => ?_) e
  rw [fine_mk] at hf
  obtain ⟨f1, f2, f3, f4⟩ := hf
  rw [thick_mk] at hn
  obtain ⟨h1, h2⟩ := nrms_fine k t a (fun e he => ⟨f4 e he, ih e he (f4 e he)⟩) n 0 hn
  rw [nrm_mk]
  refine lets_fine _ _ h2 ?_
  rw [fine_mk]
  exact ⟨f1, f2, f3, h1⟩
theorem perm_of_cnt {l m : List ByteArray} (h : ∀ s, l.countP (fun x => decide (x = s)) = m.countP (fun x => decide (x = s))) : l.Perm m :=
  (@List.perm_iff_count ByteArray instBEqOfDecidableEq inferInstance l m).2 h
theorem cnt_of_perm {l m : List ByteArray} (h : l.Perm m) (s : ByteArray) : l.countP (fun x => decide (x = s)) = m.countP (fun x => decide (x = s)) := h.countP_eq _
theorem bnd_mk (k : Int) (t : ByteArray) (ns : List ByteArray) (a : List Et) : (Et.mk k t ns a).bnd = ns ++ Et.bnds a := by simp only [Et.bnd]
/-- What a row of lets binds. -/
theorem lets_bnd : ∀ (l : List (ByteArray × Et)) (b : Et), (lets l b).bnd.Perm (l.map (·.1) ++ Et.bnds (l.map (·.2)) ++ b.bnd)
  | [], b => by simp [lets, Et.bnds]
  | p :: l, b => by
    have h := lets_bnd l b
    have e1 : (lets (p :: l) b).bnd = p.1 :: (p.2.bnd ++ ((lets l b).bnd ++ [])) := by
      show (ebind p.1 p.2 (lets l b)).bnd = _
      unfold ebind
      rw [bnd_mk]
      simp only [Et.bnds, List.singleton_append]
    rw [e1, List.append_nil]
    refine perm_of_cnt fun s => ?_
    have a1 := cnt_of_perm h s
    simp only [List.map_cons, Et.bnds, List.cons_append, List.countP_cons, List.countP_append] at a1 ⊢
    omega
theorem bnds_evar (s : ByteArray) (l : List Et) : Et.bnds (evar s :: l) = Et.bnds l := by
  show (evar s).bnd ++ Et.bnds l = _
  have : (evar s).bnd = [] := by unfold evar; rw [bnd_mk]; rfl
  rw [this]; rfl
/-- The same of rows of parts: all names, and the new ones. -/
theorem nrms_bnd (k : Int) (t : ByteArray) : ∀ (l : List Et), (∀ e ∈ l, ∀ n, (e.nrm n).2.bnd.Perm (e.bnd ++ pns n (e.nrm n).1)) → ∀ (n i : Nat),
    (Et.bnds (Et.nrms k t n i l).2.1 ++ ((Et.nrms k t n i l).2.2.map (·.1) ++ Et.bnds ((Et.nrms k t n i l).2.2.map (·.2)))).Perm (Et.bnds l ++ pns n (Et.nrms k t n i l).1)
  | [], _, n, i => by simp [nrms_nil, Et.bnds, pns_self]
  | x :: l, h, n, i => by
    have hx := h x (by simp) n
    have hl := fun n => nrms_bnd k t l (fun e he => h e (by simp [he])) n (i + 1)
    have hc := (nrm_f x n).cnt
    rw [nrms_cons]
    have hle : ∀ n i, n ≤ (Et.nrms k t n i l).1 := fun n i => by rw [(nrms_f k t l (fun e _ => nrm_f e) n i).1]; omega
    split
    · have h2 := hl ((x.nrm n).1 + 1)
      have hle2 := hle ((x.nrm n).1 + 1) (i + 1)
      generalize Et.nrms k t ((x.nrm n).1 + 1) (i + 1) l = q at h2 hle2 ⊢
      obtain ⟨m, made, vals⟩ := q
      simp only at h2 hle2 ⊢
      generalize (x.nrm n).2 = x' at hx ⊢
      generalize (x.nrm n).1 = m1 at hx h2 hle2 hc ⊢
      have e1 : pns n m = pns n m1 ++ ([pn (m1 + 1)] ++ pns (m1 + 1) m) := by
        rw [← pns_one, pns_append m1 (m1 + 1) m (by omega) hle2, pns_append n m1 m (by omega) (by omega)]
      rw [bnds_evar, e1]
      simp only [List.map_cons, Et.bnds]
      -- both sides by counting
      refine perm_of_cnt fun s => ?_
      have a1 := cnt_of_perm hx s
      have a2 := cnt_of_perm h2 s
      simp only [List.countP_append, List.countP_cons, List.countP_nil, List.cons_append, List.nil_append] at a1 a2 ⊢
      omega
    · have h2 := hl (x.nrm n).1
      have hle2 := hle (x.nrm n).1 (i + 1)
      generalize Et.nrms k t (x.nrm n).1 (i + 1) l = q at h2 hle2 ⊢
      obtain ⟨m, made, vals⟩ := q
      simp only at h2 hle2 ⊢
      generalize (x.nrm n).2 = x' at hx ⊢
      generalize (x.nrm n).1 = m1 at hx h2 hle2 hc ⊢
      have e1 : pns n m = pns n m1 ++ pns m1 m := (pns_append n m1 m (by omega) hle2).symm
      rw [e1]
      simp only [Et.bnds]
      refine perm_of_cnt fun s => ?_
      have a1 := cnt_of_perm hx s
      have a2 := cnt_of_perm h2 s
      simp only [List.countP_append] at a1 a2 ⊢
      omega
theorem nrm_bnd (e : Et) : ∀ n, (e.nrm n).2.bnd.Perm (e.bnd ++ pns n (e.nrm n).1) := by
  refine Et.induct (P := fun e => ∀ n, (e.nrm n).2.bnd.Perm (e.bnd ++ pns n (e.nrm n).1)) (fun k t ns a ih n => ?_) e
  have h := nrms_bnd k t a ih n 0
  rw [nrm_mk]
  refine (lets_bnd _ _).trans ?_
  rw [bnd_mk, bnd_mk]
  refine perm_of_cnt fun s => ?_
  have a1 := cnt_of_perm h s
  simp only [List.countP_append] at a1 ⊢
  omega
mutual
/-- The texts of a term's names that are asked for. -/
def Et.vars : Et → List ByteArray
  | .mk k t ns a => (if k = 5 then [t] else []) ++ Et.varss a
def Et.varss : List Et → List ByteArray
  | [] => []
  | e :: l => e.vars ++ Et.varss l
end
theorem vars_mk (k : Int) (t : ByteArray) (ns : List ByteArray) (a : List Et) : (Et.mk k t ns a).vars = (if k = 5 then [t] else []) ++ Et.varss a := by simp only [Et.vars]
theorem varss_iff {s : ByteArray} : ∀ (l : List Et), s ∈ Et.varss l ↔ ∃ e ∈ l, s ∈ e.vars
  | [] => by simp [Et.varss]
  | e :: l => by simp [Et.varss, varss_iff l]
theorem bnds_iff {s : ByteArray} : ∀ (l : List Et), s ∈ Et.bnds l ↔ ∃ e ∈ l, s ∈ e.bnd
  | [] => by simp [Et.bnds]
  | e :: l => by simp [Et.bnds, bnds_iff l]
theorem fr_def (k : Int) (t : ByteArray) (ns : List ByteArray) (a : List Et) (s : ByteArray) : (Et.mk k t ns a).fr s ↔ (k = 5 ∧ t = s) ∨ (Et.frs s a ∧ s ∉ ns) := by conv => lhs; unfold Et.fr
/-- A name that is asked for is free, or bound. -/
theorem vars_of (e : Et) : ∀ s, s ∈ e.vars → e.fr s ∨ s ∈ e.bnd := by
  refine Et.induct (P := fun e => ∀ s, s ∈ e.vars → e.fr s ∨ s ∈ e.bnd) (fun k t ns a ih s hs => ?_) e
  rw [vars_mk, List.mem_append] at hs
  rw [fr_def]
  rw [bnd_mk, List.mem_append]
  rcases hs with hs | hs
  · split at hs
    · rename_i h5
      simp at hs
      exact .inl (.inl ⟨h5, hs.symm⟩)
    · simp at hs
  · obtain ⟨x, hx, hxs⟩ := (varss_iff a).1 hs
    rcases ih x hx s hxs with h | h
    · by_cases hn : s ∈ ns
      · exact .inr (.inl hn)
      · exact .inl (.inr ⟨(frs_iff a).2 ⟨x, hx, h⟩, hn⟩)
    · exact .inr (.inr ((bnds_iff a).2 ⟨x, hx, h⟩))
theorem fr_vars (e : Et) : ∀ s, e.fr s → s ∈ e.vars := by
  refine Et.induct (P := fun e => ∀ s, e.fr s → s ∈ e.vars) (fun k t ns a ih s hs => ?_) e
  rw [fr_def] at hs
  rw [vars_mk, List.mem_append]
  rcases hs with ⟨h5, rfl⟩ | ⟨hf, _⟩
  · left; simp [h5]
  · right
    obtain ⟨x, hx, hxs⟩ := (frs_iff a).1 hf
    exact (varss_iff a).2 ⟨x, hx, ih x hx s hxs⟩
theorem ebind_fr (s : ByteArray) (v e : Et) (x : ByteArray) : (ebind s v e).fr x ↔ (v.fr x ∨ e.fr x) ∧ x ≠ s := by
  unfold ebind
  rw [fr_def]
  simp [Et.frs]
theorem lets_fr : ∀ (l : List (ByteArray × Et)) (b : Et) (x : ByteArray), (lets l b).fr x → (∃ p ∈ l, p.2.fr x) ∨ (b.fr x ∧ ∀ p ∈ l, x ≠ p.1)
  | [], b, x, h => .inr ⟨h, by simp⟩
  | p :: l, b, x, h => by
    have h' : (ebind p.1 p.2 (lets l b)).fr x := h
    rw [ebind_fr] at h'
    rcases h'.1 with h1 | h1
    · exact .inl ⟨p, by simp, h1⟩
    · rcases lets_fr l b x h1 with ⟨q, hq, hf⟩ | ⟨h2, h3⟩
      · exact .inl ⟨q, by simp [hq], hf⟩
      · refine .inr ⟨h2, fun q hq => ?_⟩
        rcases List.mem_cons.1 hq with rfl | hq
        · exact h'.2
        · exact h3 q hq
/-- What is free in a row of parts that was normed. -/
theorem nrms_fr (k : Int) (t : ByteArray) (x : ByteArray) : ∀ (l : List Et), (∀ e ∈ l, ∀ n, (e.nrm n).2.fr x → e.fr x) → ∀ (n i : Nat),
    (Et.frs x (Et.nrms k t n i l).2.1 → Et.frs x l ∨ ∃ p ∈ (Et.nrms k t n i l).2.2, x = p.1) ∧ (∀ p ∈ (Et.nrms k t n i l).2.2, p.2.fr x → Et.frs x l)
  | [], _, n, i => by simp [nrms_nil, Et.frs]
  | y :: l, h, n, i => by
    have hy := h y (by simp) n
    have hl := fun n => nrms_fr k t x l (fun e he => h e (by simp [he])) n (i + 1)
    rw [nrms_cons]
    split
    · obtain ⟨h1, h2⟩ := hl ((y.nrm n).1 + 1)
      refine ⟨fun hf => ?_, fun p hp hf => ?_⟩
      · have hf' : (evar (pn ((y.nrm n).1 + 1))).fr x ∨ Et.frs x (Et.nrms k t ((y.nrm n).1 + 1) (i + 1) l).2.1 := hf
        rcases hf' with hf' | hf'
        · unfold evar at hf'
          rw [fr_def] at hf'
          rcases hf' with ⟨_, e⟩ | ⟨hf', _⟩
          · exact .inr ⟨_, List.mem_cons_self, e.symm⟩
          · simp [Et.frs] at hf'
        · rcases h1 hf' with h3 | ⟨p, hp, e⟩
          · exact .inl (.inr h3)
          · exact .inr ⟨p, List.mem_cons_of_mem _ hp, e⟩
      · rcases List.mem_cons.1 hp with rfl | hp
        · exact .inl (hy hf)
        · exact .inr (h2 p hp hf)
    · obtain ⟨h1, h2⟩ := hl (y.nrm n).1
      refine ⟨fun hf => ?_, fun p hp hf => .inr (h2 p hp hf)⟩
      have hf' : (y.nrm n).2.fr x ∨ Et.frs x (Et.nrms k t (y.nrm n).1 (i + 1) l).2.1 := hf
      rcases hf' with hf' | hf'
      · exact .inl (.inl (hy hf'))
      · rcases h1 hf' with h3 | h3
        · exact .inl (.inr h3)
        · exact .inr h3
/-- What was normed has no other free names. -/
theorem nrm_fr (x : ByteArray) (e : Et) : e.right num = true → ∀ n, (e.nrm n).2.fr x → e.fr x := by
  refine Et.induct (P := fun e => e.right num = true → ∀ n, (e.nrm n).2.fr x → e.fr x) (fun k t ns a ih hr n hf => ?_) e
  have hr0 := hr
  rw [right_mk, Bool.and_eq_true] at hr
  have hra := (rights_all a).1 hr.2
  obtain ⟨h1, h2⟩ := nrms_fr k t x a (fun e he n => ih e he (hra e he) n) n 0
  rw [nrm_mk] at hf
  rw [fr_def]
  by_cases h7 : k = 7 ∨ k = 10
  · have hns : ns = [] := by
      have h3 := hr.1
      simp only [shapeB, Bool.and_eq_true] at h3
      have h4 := h3.1.2
      unfold namesB at h4
      rw [if_neg (by omega)] at h4
      simpa using h4
    subst hns
    rcases lets_fr _ _ x hf with ⟨p, hp, hpf⟩ | ⟨hb, hne⟩
    · exact .inr ⟨h2 p hp hpf, by simp⟩
    · rw [fr_def] at hb
      rcases hb with hb | ⟨hb, _⟩
      · exact .inl hb
      · rcases h1 hb with h3 | ⟨p, hp, e⟩
        · exact .inr ⟨h3, by simp⟩
        · exact absurd e (hne p hp)
  · have hv := nrms_vals k t (fun e => h7 (.inl e)) (fun e => h7 (.inr e)) a n 0
    rw [hv] at hf h1
    have hf' : (Et.mk k t ns (Et.nrms k t n 0 a).2.1).fr x := hf
    rw [fr_def] at hf'
    rcases hf' with hb | ⟨hb, hn⟩
    · exact .inl hb
    · rcases h1 hb with h3 | ⟨p, hp, _⟩
      · exact .inr ⟨h3, hn⟩
      · cases hp
theorem thicks_le (k : Int) (t : ByteArray) : ∀ (l : List Et), (∀ e ∈ l, e.thick + 1 ≤ e.size) → ∀ i, Et.thicks k t i l ≤ Et.sizes l
  | [], _, i => by rw [thicks_nil]; exact Nat.zero_le _
  | x :: l, h, i => by
    have h1 := h x (by simp)
    have h2 := thicks_le k t l (fun e he => h e (by simp [he])) (i + 1)
    rw [thicks_cons]
    simp only [Et.sizes]
    split <;> omega
theorem thick_lt (e : Et) : e.thick + 1 ≤ e.size := by
  refine Et.induct (P := fun e => e.thick + 1 ≤ e.size) (fun k t ns a ih => ?_) e
  have := thicks_le k t a ih 0
  rw [thick_mk]
  simp only [Et.size]; omega
/-- How many of these names begin with the sign of given ones. -/
def isP (s : ByteArray) : Bool := decide (0 < s.size) && (s.data.toList.headD 0 == 37)
theorem isP_pn (m : Nat) : isP (pn m) = true := by
  unfold isP pn
  simp [ByteArray.size]
theorem isP_nm (m : Nat) : isP (nm m) = false := by
  unfold isP nm
  simp
theorem count_pns (a b : Nat) : (pns a b).countP isP = b - a := by
  rw [List.countP_eq_length.2 (fun s hs => by obtain ⟨j, _, _, rfl⟩ := pns_mem hs; exact isP_pn j), pns_len]
theorem count_nms (a b : Nat) : (nms a b).countP isP = 0 := by
  rw [List.countP_eq_zero]
  intro s hs
  obtain ⟨j, _, _, rfl⟩ := nms_mem hs
  rw [isP_nm]; decide
/-- A made closed term, normed: all names are bound once. -/
theorem nrm_once {e : Et} {m' n : Nat} (h : e.bnd = nms 0 m') : Once (e.nrm n).2.bnd := by
  have hp := nrm_bnd e n
  rw [h] at hp
  refine ⟨fun s hs => ?_, ?_⟩
  · rcases List.mem_append.1 (hp.mem_iff.1 hs) with h1 | h1
    · exact (nms_once 0 m').1 s h1
    · obtain ⟨j, _, _, rfl⟩ := pns_mem h1; exact pn_ne j
  · rw [hp.nodup_iff, List.nodup_append]
    refine ⟨(nms_once 0 m').2, pns_nodup _ _, ?_⟩
    intro a ha b hb e
    obtain ⟨i, _, _, rfl⟩ := nms_mem ha
    obtain ⟨j, _, _, rfl⟩ := pns_mem hb
    exact pn_nm j i e.symm
end Go.Proofs.YtmcgocbkjdacaaaDoor
