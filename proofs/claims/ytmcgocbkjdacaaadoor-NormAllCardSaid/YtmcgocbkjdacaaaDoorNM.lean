/- Arguments by name: the mathematics. -/
import Derived.Test.YtmcgocbkjdacaaaDoorM0
namespace Go.Proofs.YtmcgocbkjdacaaaDoor
open Go.RowKit Go.BigM
set_option linter.unusedVariables false
set_option linter.unusedSimpArgs false
/-- What holds of a term when it holds of its parts holds of all. -/
theorem Et.ind {P : Et → Prop} (h : ∀ k t ns a, (∀ e ∈ a, P e) → P (.mk k t ns a)) : ∀ (n : Nat) (e : Et), e.size ≤ n → P e := by
  intro n
  induction n with
  | zero => intro e he; cases e; simp [Et.size] at he
  | succ n ih =>
    intro e he
    obtain ⟨k, t, ns, a⟩ := e
    refine h k t ns a fun e hm => ih e ?_
    obtain ⟨j, hj, rfl⟩ := List.getElem_of_mem hm
    have := esize_get a j hj
    simp only [Et.size] at he; omega
theorem Et.induct {P : Et → Prop} (h : ∀ k t ns a, (∀ e ∈ a, P e) → P (.mk k t ns a)) (e : Et) : P e := Et.ind h e.size e (Nat.le_refl _)
/-- Has the part at a place to be an atom? -/
def slot (k : Int) (t : ByteArray) (i : Nat) : Bool := (decide (k = 7) && decide (1 ≤ i)) || (decide (k = 10) && (t.toList == [99, 111, 110, 115]))
def atomB (k : Int) : Bool := decide (1 ≤ k) && decide (k ≤ 5)
def Et.atom (e : Et) : Bool := atomB e.kind
/-- A name that norm gives. -/
def pn (n : Nat) : ByteArray := ⟨(37 :: 46 :: dgn n).toArray⟩
theorem pn_inj {a b : Nat} (h : pn a = pn b) : a = b := by
  unfold pn at h
  have h1 := congrArg (fun (x : ByteArray) => x.data.toList) h
  simp only [List.cons.injEq, true_and] at h1
  rw [← dval_dgn a, ← dval_dgn b, h1]
theorem pn_ne (n : Nat) : pn n ≠ ⟨#[]⟩ := by
  intro h
  have h1 := congrArg (fun (x : ByteArray) => x.data.toList) h
  unfold pn at h1
  simp at h1
theorem pn_nm (a b : Nat) : pn a ≠ nm b := by
  intro h
  have h1 := congrArg (fun (x : ByteArray) => x.data.toList) h
  unfold pn nm at h1
  simp at h1
theorem pn_size (n : Nat) (h : n ≤ 1000000) : (pn n).size ≤ 20 := by
  have := dgn_len 9 n (by omega)
  unfold pn
  simp only [ByteArray.size, List.size_toArray, List.length_cons]; omega
def pns (m m' : Nat) : List ByteArray := (List.range' (m + 1) (m' - m)).map pn
theorem pns_self (m : Nat) : pns m m = [] := by simp [pns]
theorem pns_append (a b c : Nat) (h1 : a ≤ b) (h2 : b ≤ c) : pns a b ++ pns b c = pns a c := by
  unfold pns
  rw [← List.map_append]
  congr 1
  have := List.range'_append_1 (s := a + 1) (m := b - a) (n := c - b)
  rw [show a + 1 + (b - a) = b + 1 by omega, show b - a + (c - b) = c - a by omega] at this
  exact this
theorem pns_one (a : Nat) : pns a (a + 1) = [pn (a + 1)] := by
  unfold pns; rw [show a + 1 - a = 1 by omega]; rfl
theorem pns_mem {m m' : Nat} {s : ByteArray} (h : s ∈ pns m m') : ∃ j, m < j ∧ j ≤ m' ∧ s = pn j := by
  unfold pns at h
  obtain ⟨j, hj, rfl⟩ := List.mem_map.1 h
  rw [List.mem_range'_1] at hj
  exact ⟨j, by omega, by omega, rfl⟩
theorem pns_nodup (m m' : Nat) : (pns m m').Nodup := by
  unfold pns
  exact List.pairwise_map.2 ((List.nodup_range' (step := 1) (by decide)).imp fun h e => h (pn_inj e))
theorem pns_len (m m' : Nat) : (pns m m').length = m' - m := by simp [pns]
def evar (s : ByteArray) : Et := .mk 5 s [] []
def ebind (s : ByteArray) (v e : Et) : Et := .mk 9 ⟨#[]⟩ [s] [v, e]
def lets : List (ByteArray × Et) → Et → Et
  | [], b => b
  | p :: l, b => ebind p.1 p.2 (lets l b)
theorem lets_append : ∀ (l m : List (ByteArray × Et)) (b : Et), lets (l ++ m) b = lets l (lets m b)
  | [], m, b => rfl
  | p :: l, m, b => by simp only [List.cons_append, lets, lets_append l m b]
mutual
/-- A term, normed: so many names have been given; as many then. -/
def Et.nrm : Nat → Et → Nat × Et
  | n, .mk k t ns a => ((Et.nrms k t n 0 a).1, lets (Et.nrms k t n 0 a).2.2 (.mk k t ns (Et.nrms k t n 0 a).2.1))
/-- Its parts from a place on, what stands for them, and what has names. -/
def Et.nrms (k : Int) (t : ByteArray) : Nat → Nat → List Et → Nat × List Et × List (ByteArray × Et)
  | n, _, [] => (n, [], [])
  | n, i, e :: l =>
    if slot k t i && !(Et.nrm n e).2.atom then
      ((Et.nrms k t ((Et.nrm n e).1 + 1) (i + 1) l).1, evar (pn ((Et.nrm n e).1 + 1)) :: (Et.nrms k t ((Et.nrm n e).1 + 1) (i + 1) l).2.1, (pn ((Et.nrm n e).1 + 1), (Et.nrm n e).2) :: (Et.nrms k t ((Et.nrm n e).1 + 1) (i + 1) l).2.2)
    else ((Et.nrms k t (Et.nrm n e).1 (i + 1) l).1, (Et.nrm n e).2 :: (Et.nrms k t (Et.nrm n e).1 (i + 1) l).2.1, (Et.nrms k t (Et.nrm n e).1 (i + 1) l).2.2)
end
theorem nrm_mk (n : Nat) (k : Int) (t : ByteArray) (ns : List ByteArray) (a : List Et) : Et.nrm n (.mk k t ns a) = ((Et.nrms k t n 0 a).1, lets (Et.nrms k t n 0 a).2.2 (.mk k t ns (Et.nrms k t n 0 a).2.1)) := by
  simp only [Et.nrm]
theorem nrms_nil (k : Int) (t : ByteArray) (n i : Nat) : Et.nrms k t n i [] = (n, [], []) := by simp only [Et.nrms]
theorem nrms_cons (k : Int) (t : ByteArray) (n i : Nat) (e : Et) (l : List Et) : Et.nrms k t n i (e :: l) =
    if slot k t i && !(Et.nrm n e).2.atom then
      ((Et.nrms k t ((Et.nrm n e).1 + 1) (i + 1) l).1, evar (pn ((Et.nrm n e).1 + 1)) :: (Et.nrms k t ((Et.nrm n e).1 + 1) (i + 1) l).2.1, (pn ((Et.nrm n e).1 + 1), (Et.nrm n e).2) :: (Et.nrms k t ((Et.nrm n e).1 + 1) (i + 1) l).2.2)
    else ((Et.nrms k t (Et.nrm n e).1 (i + 1) l).1, (Et.nrm n e).2 :: (Et.nrms k t (Et.nrm n e).1 (i + 1) l).2.1, (Et.nrms k t (Et.nrm n e).1 (i + 1) l).2.2) := by
  conv => lhs; unfold Et.nrms
/-- One part more. -/
theorem nrms_snoc (k : Int) (t : ByteArray) (e : Et) : ∀ (l : List Et) (n i : Nat), Et.nrms k t n i (l ++ [e]) =
    if slot k t (i + l.length) && !(Et.nrm (Et.nrms k t n i l).1 e).2.atom then
      ((Et.nrm (Et.nrms k t n i l).1 e).1 + 1, (Et.nrms k t n i l).2.1 ++ [evar (pn ((Et.nrm (Et.nrms k t n i l).1 e).1 + 1))], (Et.nrms k t n i l).2.2 ++ [(pn ((Et.nrm (Et.nrms k t n i l).1 e).1 + 1), (Et.nrm (Et.nrms k t n i l).1 e).2)])
    else ((Et.nrm (Et.nrms k t n i l).1 e).1, (Et.nrms k t n i l).2.1 ++ [(Et.nrm (Et.nrms k t n i l).1 e).2], (Et.nrms k t n i l).2.2)
  | [], n, i => by
    rw [List.nil_append, nrms_cons]
    simp only [nrms_nil, List.length_nil, Nat.add_zero, List.nil_append]
  | x :: l, n, i => by
    rw [List.cons_append, nrms_cons]
    conv => rhs; rw [nrms_cons]
    have e1 : i + (x :: l).length = i + 1 + l.length := by simp only [List.length_cons]; omega
    rw [e1]
    split
    · rw [nrms_snoc k t e l _ (i + 1)]
      split <;> simp only [List.cons_append]
    · rw [nrms_snoc k t e l _ (i + 1)]
      split <;> simp only [List.cons_append]
theorem nrms_len (k : Int) (t : ByteArray) : ∀ (l : List Et) (n i : Nat), (Et.nrms k t n i l).2.1.length = l.length
  | [], n, i => by rw [nrms_nil]
  | x :: l, n, i => by
    rw [nrms_cons]
    split
    · simp only [List.length_cons, nrms_len k t l]
    · simp only [List.length_cons, nrms_len k t l]
/-- Which vals are there: as many as slots that are no atoms. -/
theorem slot_kind {k : Int} {t : ByteArray} {i : Nat} (h : slot k t i = true) : k = 7 ∨ k = 10 := by
  unfold slot at h; simp at h; omega
theorem nrms_vals (k : Int) (t : ByteArray) (h7 : k ≠ 7) (h10 : k ≠ 10) : ∀ (l : List Et) (n i : Nat), (Et.nrms k t n i l).2.2 = []
  | [], n, i => by rw [nrms_nil]
  | x :: l, n, i => by
    rw [nrms_cons, if_neg]
    · exact nrms_vals k t h7 h10 l _ _
    · intro h
      have h1 : slot k t i = true := by simp at h; exact h.1
      rcases slot_kind h1 with h | h
      · exact h7 h
      · exact h10 h
/-- So much larger. -/
theorem lets_size : ∀ (l : List (ByteArray × Et)) (b : Et), (lets l b).size = b.size + l.length + Et.sizes (l.map (·.2))
  | [], b => by simp [lets, Et.sizes]
  | p :: l, b => by simp only [lets, ebind, Et.size, Et.sizes, lets_size l b, List.map_cons, List.length_cons]; omega
mutual
/-- How many arguments are no atoms. -/
def Et.thick : Et → Nat
  | .mk k t ns a => Et.thicks k t 0 a
def Et.thicks (k : Int) (t : ByteArray) : Nat → List Et → Nat
  | _, [] => 0
  | i, e :: l => e.thick + (if slot k t i && !e.atom then 1 else 0) + Et.thicks k t (i + 1) l
end
mutual
/-- All arguments are atoms that have to be. -/
def Et.is : Et → Bool
  | .mk k t ns a => Et.iss k t 0 a
def Et.iss (k : Int) (t : ByteArray) : Nat → List Et → Bool
  | _, [] => true
  | i, e :: l => e.is && (!slot k t i || e.atom) && Et.iss k t (i + 1) l
end
theorem is_mk (k : Int) (t : ByteArray) (ns : List ByteArray) (a : List Et) : (Et.mk k t ns a).is = Et.iss k t 0 a := by simp only [Et.is]
theorem thick_mk (k : Int) (t : ByteArray) (ns : List ByteArray) (a : List Et) : (Et.mk k t ns a).thick = Et.thicks k t 0 a := by simp only [Et.thick]
theorem iss_nil (k : Int) (t : ByteArray) (i : Nat) : Et.iss k t i [] = true := by simp only [Et.iss]
theorem iss_cons (k : Int) (t : ByteArray) (i : Nat) (e : Et) (l : List Et) : Et.iss k t i (e :: l) = (e.is && (!slot k t i || e.atom) && Et.iss k t (i + 1) l) := by simp only [Et.iss]
theorem thicks_cons (k : Int) (t : ByteArray) (i : Nat) (e : Et) (l : List Et) : Et.thicks k t i (e :: l) = e.thick + (if slot k t i && !e.atom then 1 else 0) + Et.thicks k t (i + 1) l := by simp only [Et.thicks]
theorem thicks_nil (k : Int) (t : ByteArray) (i : Nat) : Et.thicks k t i [] = 0 := by simp only [Et.thicks]
theorem thicks_snoc (k : Int) (t : ByteArray) (e : Et) : ∀ (l : List Et) (i : Nat), Et.thicks k t i (l ++ [e]) = Et.thicks k t i l + (e.thick + (if slot k t (i + l.length) && !e.atom then 1 else 0))
  | [], i => by rw [List.nil_append, thicks_cons, thicks_nil, thicks_nil]; simp only [List.length_nil, Nat.add_zero, Nat.zero_add]
  | x :: l, i => by
    rw [List.cons_append, thicks_cons, thicks_cons, thicks_snoc k t e l (i + 1)]
    have e1 : i + (x :: l).length = i + 1 + l.length := by simp only [List.length_cons]; omega
    rw [e1]; omega
theorem iss_snoc (k : Int) (t : ByteArray) (e : Et) : ∀ (l : List Et) (i : Nat), Et.iss k t i (l ++ [e]) = (Et.iss k t i l && (e.is && (!slot k t (i + l.length) || e.atom)))
  | [], i => by rw [List.nil_append, iss_cons, iss_nil, iss_nil]; simp only [List.length_nil, Nat.add_zero, Bool.and_true, Bool.true_and]
  | x :: l, i => by
    rw [List.cons_append, iss_cons, iss_cons, iss_snoc k t e l (i + 1)]
    have e1 : i + (x :: l).length = i + 1 + l.length := by simp only [List.length_cons]; omega
    rw [e1]; simp only [Bool.and_assoc]
theorem iss_get (k : Int) (t : ByteArray) : ∀ (l : List Et) (i : Nat), Et.iss k t i l = true ↔ ∀ j (h : j < l.length), l[j].is = true ∧ (slot k t (i + j) = true → l[j].atom = true)
  | [], i => by simp [iss_nil]
  | x :: l, i => by
    rw [iss_cons, Bool.and_eq_true, iss_get k t l (i + 1)]
    constructor
    · rintro ⟨h1, h2⟩ j hj
      cases j with
      | zero =>
        simp only [Bool.and_eq_true, Bool.or_eq_true, Bool.not_eq_true'] at h1
        refine ⟨h1.1, fun h => ?_⟩
        rcases h1.2 with h3 | h3
        · rw [Nat.add_zero] at h; rw [h] at h3; cases h3
        · exact h3
      | succ j =>
        have := h2 j (by simpa using hj)
        rw [show i + (j + 1) = i + 1 + j by omega]
        exact this
    · intro h
      refine ⟨?_, fun j hj => ?_⟩
      · have h0 := h 0 (by simp)
        simp only [List.getElem_cons_zero, Nat.add_zero] at h0
        cases hs : slot k t i with
        | false => simp [h0.1]
        | true => simp [h0.1, h0.2 hs]
      · have := h (j + 1) (by simpa using hj)
        rw [show i + (j + 1) = i + 1 + j by omega] at this
        exact this
/-- What norming keeps. -/
structure NrmF (e : Et) (n : Nat) : Prop where
  cnt : (e.nrm n).1 = n + e.thick
  atom : (e.nrm n).2.atom = e.atom
  size : (e.nrm n).2.size = e.size + 2 * e.thick
  is : (e.nrm n).2.is = true
  stays : e.is = true → (e.nrm n).2 = e ∧ e.thick = 0
theorem lets_is : ∀ (l : List (ByteArray × Et)) (b : Et), (lets l b).is = (l.all (fun p => p.2.is) && b.is)
  | [], b => by simp [lets]
  | p :: l, b => by
    have hs : ∀ i, slot 9 ⟨#[]⟩ i = false := fun i => by simp [slot]
    simp only [lets, ebind, is_mk, iss_cons, iss_nil, hs, lets_is l b, List.all_cons, Bool.not_false, Bool.true_or, Bool.and_true, Bool.and_assoc]
theorem lets_cons_kind (p : ByteArray × Et) (l : List (ByteArray × Et)) (b : Et) : (lets (p :: l) b).kind = 9 := rfl
theorem evar_is (s : ByteArray) : (evar s).is = true := by simp [evar, is_mk, iss_nil]
theorem evar_atom (s : ByteArray) : (evar s).atom = true := by simp [evar, Et.atom, Et.kind, atomB]
/-- The same of rows of parts. -/
theorem nrms_f (k : Int) (t : ByteArray) : ∀ (l : List Et), (∀ e ∈ l, ∀ n, NrmF e n) → ∀ (n i : Nat),
    (Et.nrms k t n i l).1 = n + Et.thicks k t i l ∧ Et.sizes (Et.nrms k t n i l).2.1 + Et.sizes ((Et.nrms k t n i l).2.2.map (·.2)) + (Et.nrms k t n i l).2.2.length = Et.sizes l + 2 * Et.thicks k t i l ∧
    Et.iss k t i (Et.nrms k t n i l).2.1 = true ∧ (Et.nrms k t n i l).2.2.all (fun p => p.2.is) = true ∧ (Et.iss k t i l = true → (Et.nrms k t n i l).2.1 = l ∧ (Et.nrms k t n i l).2.2 = [] ∧ Et.thicks k t i l = 0)
  | [], _, n, i => by simp [nrms_nil, thicks_nil, iss_nil, Et.sizes]
  | x :: l, h, n, i => by
    have hx := h x (by simp) n
    have hl := fun n => nrms_f k t l (fun e he => h e (by simp [he])) n (i + 1)
    rw [nrms_cons, thicks_cons, iss_cons, hx.atom]
    split
    · rename_i hc
      obtain ⟨h1, h2, h3, h4, h5⟩ := hl ((x.nrm n).1 + 1)
      have hsz := hx.size
      have hct := hx.cnt
      refine ⟨by rw [h1, hct]; omega, ?_, ?_, ?_, ?_⟩
      · simp only [Et.sizes, List.map_cons, List.length_cons, evar, Et.size] at h2 ⊢
        omega
      · rw [iss_cons, evar_is, evar_atom, h3]; simp
      · rw [List.all_cons, hx.is, h4]; rfl
      · intro h6
        simp only [Bool.and_eq_true, Bool.not_eq_true'] at hc
        simp [hc.1, hc.2] at h6
    · rename_i hc
      obtain ⟨h1, h2, h3, h4, h5⟩ := hl (x.nrm n).1
      have hsz := hx.size
      have hct := hx.cnt
      refine ⟨by rw [h1, hct]; omega, ?_, ?_, h4, ?_⟩
      · simp only [Et.sizes] at h2 ⊢
        omega
      · rw [iss_cons, hx.is, h3, hx.atom]
        cases hs : slot k t i with
        | false => simp
        | true => simp [hs] at hc; simp [hc]
      · intro h6
        simp only [Bool.and_eq_true] at h6
        obtain ⟨q1, q2⟩ := hx.stays h6.1.1
        obtain ⟨q3, q4, q5⟩ := h5 h6.2
        exact ⟨by rw [q1, q3], q4, by omega⟩
theorem nrm_f (e : Et) : ∀ n, NrmF e n := by
  refine Et.induct (P := fun e => ∀ n, NrmF e n) (fun k t ns a ih n => ?_) e
  obtain ⟨h1, h2, h3, h4, h5⟩ := nrms_f k t a ih n 0
  have hk : ((Et.mk k t ns a).nrm n).2.atom = (Et.mk k t ns a).atom := by
    rw [nrm_mk]
    cases hv : (Et.nrms k t n 0 a).2.2 with
    | nil => rfl
    | cons p l =>
      by_cases h7 : k = 7
      · subst h7; rfl
      · by_cases h10 : k = 10
        · subst h10; rfl
        · rw [nrms_vals k t h7 h10] at hv; cases hv
  refine ⟨by rw [nrm_mk, thick_mk]; exact h1, hk, ?_, ?_, ?_⟩
  · rw [nrm_mk, thick_mk]
    simp only [lets_size, Et.size]; omega
  · rw [nrm_mk]
    simp only [lets_is, h4, is_mk, h3]; rfl
  · intro h
    rw [is_mk] at h
    obtain ⟨h6, h7, h8⟩ := h5 h
    rw [nrm_mk, thick_mk]
    simp only [h6, h7]
    exact ⟨rfl, h8⟩
end Go.Proofs.YtmcgocbkjdacaaaDoor
