/- Texts of data, and how Read takes them. -/
import Derived.Test.YtkjcbaikebdmmaaDoorJ11
namespace Go.Proofs.YtkjcbaikebdmmaaDoor
open Go.RowKit Go.BigM
set_option linter.unusedVariables false
set_option linter.unusedSimpArgs false
/-- What does not count. -/
def Gap (g : List UInt8) : Prop := ∀ rest, gapOf false (g ++ rest) = g.length + gapOf false rest
theorem Gap.nil : Gap [] := fun rest => by simp
theorem Gap.append {a b : List UInt8} (ha : Gap a) (hb : Gap b) : Gap (a ++ b) := fun rest => by
  rw [List.append_assoc, ha, hb, List.length_append]; omega
theorem Gap.blank {c : UInt8} (h : c = 9 ∨ c = 10 ∨ c = 32) : Gap [c] := fun rest => by
  rcases h with rfl | rfl | rfl
  · show gapOf false (9 :: rest) = _; rw [gapOf]; simp
  · show gapOf false (10 :: rest) = _; rw [gapOf]; simp
  · show gapOf false (32 :: rest) = _; rw [gapOf]; simp
/-- It begins with no sign. -/
def NoSign (l : List UInt8) : Prop := ∀ c, l.head? = some c → sset.contains c = false
theorem NoSign.nil : NoSign [] := fun c h => by simp at h
theorem NoSign.cons {c : UInt8} {l : List UInt8} (h : sset.contains c = false) : NoSign (c :: l) := fun d hd => by simp at hd; subst hd; exact h
theorem NoSign.append {a b : List UInt8} (ha : NoSign a) (hb : NoSign b) : NoSign (a ++ b) := by
  cases a with
  | nil => exact hb
  | cons c a => exact fun d hd => ha d (by simpa using hd)
/-- A text of a datum that is no list. -/
def Leaf (t : List UInt8) (k : Int) (u : ByteArray) : Prop :=
  ∀ rest, NoSign rest → gapOf false (t ++ rest) = 0 ∧ (∃ c, (t ++ rest).head? = some c ∧ ¬ (c = 40 ∨ c = 39) ∧ c ≠ 41) ∧ tokOf (t ++ rest) = some (k, u, t.length)
mutual
/-- How many lists stand in each other. -/
def Dt.dep : Dt → Nat
  | .mk k _ _ l _ => if k = 4 then 1 + Dt.deps l else 0
def Dt.deps : List Dt → Nat
  | [] => 0
  | d :: l => max d.dep (Dt.deps l)
end
mutual
/-- The text, from a place on, writes the datum. -/
inductive Wr : Nat → Dt → List UInt8 → Prop
  | leaf {p : Nat} {k : Int} {u : ByteArray} {t : List UInt8} : Leaf t k u → Wr p (.mk k u [] [] p) t
  | list {p : Nat} {l : List Dt} {b : List UInt8} : Wrs (p + 1) l b → Wr p (.mk 4 ⟨#[]⟩ [] l p) (40 :: (b ++ [41]))
  | quote {p : Nat} {d : Dt} {g b : List UInt8} : Gap g → Wr (p + 1 + g.length) d b → Wr p (.mk 4 ⟨#[]⟩ [] [.mk 3 qT [] [] p, d] p) (39 :: (g ++ b))
inductive Wrs : Nat → List Dt → List UInt8 → Prop
  | nil {p : Nat} {g : List UInt8} : Gap g → Wrs p [] g
  | cons {p : Nat} {d : Dt} {l : List Dt} {g t b : List UInt8} : Gap g → Wr (p + g.length) d t → Wrs (p + g.length + t.length) l b → NoSign b → Wrs p (d :: l) (g ++ (t ++ b))
end
/-- From one label on Read comes to another one. -/
def Rch (s : List UInt8) (pc : Pc) (p : Nat) (e : En) (r : List En) (pc' : Pc) (p' : Nat) (e' : En) (r' : List En) : Prop :=
  ∃ k, ∀ n R, rd s n pc' p' e' r' = some R → rd s (n + k) pc p e r = some R
theorem Rch.refl (s : List UInt8) (pc : Pc) (p : Nat) (e : En) (r : List En) : Rch s pc p e r pc p e r := ⟨0, fun n R h => h⟩
theorem Rch.trans {s : List UInt8} {a b c : Pc} {p q x : Nat} {e f g : En} {r r' r'' : List En} (h : Rch s a p e r b q f r') (k : Rch s b q f r' c x g r'') : Rch s a p e r c x g r'' := by
  obtain ⟨i, hi⟩ := h
  obtain ⟨j, hj⟩ := k
  refine ⟨j + i, fun n R h => ?_⟩
  rw [show n + (j + i) = n + j + i by omega]
  exact hi _ _ (hj _ _ h)
theorem rch_gap {s : List UInt8} {p : Nat} {g rest : List UInt8} (hg : Gap g) (hs : s.drop p = g ++ rest) (e : En) (r : List En) : Rch s .next p e r .next (p + g.length) e r := by
  refine ⟨0, fun n R h => ?_⟩
  cases n with
  | zero => cases h
  | succ n =>
    have h2 : s.drop (p + g.length) = rest := by rw [← List.drop_drop, hs]; simp
    unfold rd at h ⊢
    rw [hs, hg, ← Nat.add_assoc, ← h2]
    exact h
theorem get_drop {s : List UInt8} {p : Nat} {c : UInt8} {l : List UInt8} (h : s.drop p = c :: l) : s[p]? = some c := by
  have := List.getElem?_drop (xs := s) (i := p) (j := 0)
  rw [h] at this
  simpa using this.symm
theorem drop_next {s : List UInt8} {p : Nat} {c : UInt8} {l : List UInt8} (h : s.drop p = c :: l) : s.drop (p + 1) = l := by
  rw [← List.drop_drop, h]; rfl
theorem drop_more {s : List UInt8} {p : Nat} {t l : List UInt8} (h : s.drop p = t ++ l) : s.drop (p + t.length) = l := by
  rw [← List.drop_drop, h]; simp
theorem gap_no {c : UInt8} {l : List UInt8} (h : ([59, 9, 10, 32] : List UInt8).contains c = false) : gapOf false (c :: l) = 0 := by
  have h1 : c ≠ 59 ∧ c ≠ 9 ∧ c ≠ 10 ∧ c ≠ 32 := by simpa using h
  rw [gapOf]
  simp [h1]
theorem rch_next {s : List UInt8} {p : Nat} {c : UInt8} {l : List UInt8} (h : s.drop p = c :: l) (hg : gapOf false (c :: l) = 0) (e : En) (r : List En) :
    Rch s .next p e r (if c = 40 ∨ c = 39 then .begin else if c = 41 then .finish else .token) p e r := by
  refine ⟨1, fun n R hr => ?_⟩
  unfold rd
  rw [h, hg, Nat.add_zero, get_drop h]
  simp only
  split
  · rename_i h1; rw [if_pos h1] at hr; exact hr
  · rename_i h1
    rw [if_neg h1] at hr
    split
    · rename_i h2; rw [if_pos h2] at hr; exact hr
    · rename_i h2; rw [if_neg h2] at hr; exact hr
theorem rch_open {s : List UInt8} {p : Nat} {c : UInt8} {l : List UInt8} (h : s.drop p = c :: l) (hc : c = 40 ∨ c = 39) (e : En) (r : List En) (hr : r.length < 60) :
    Rch s .next p e r .next (p + 1) ⟨p, c == 39, if (c == 39) = true then [.mk 3 qT [] [] p] else []⟩ (e :: r) := by
  have h1 := rch_next h (gap_no (by rcases hc with rfl | rfl <;> decide)) e r
  rw [if_pos hc] at h1
  refine h1.trans ⟨1, fun n R hR => ?_⟩
  unfold rd
  rw [get_drop h]
  simp only
  rw [if_neg (by omega)]
  exact hR
theorem rch_close {s : List UInt8} {p : Nat} {l : List UInt8} (h : s.drop p = 41 :: l) (e f : En) (r : List En) (hq : e.q = false) :
    Rch s .next p e (f :: r) (.put e.dt) (p + 1) f r := by
  have h1 := rch_next h (gap_no (by decide)) e (f :: r)
  rw [if_neg (by decide), if_pos rfl] at h1
  refine h1.trans ⟨1, fun n R hR => ?_⟩
  unfold rd
  simp only
  rw [if_neg (by rw [hq]; decide)]
  exact hR
theorem rch_put {s : List UInt8} {p : Nat} (d : Dt) (e : En) (r : List En) (hq : e.q = false) : Rch s (.put d) p e r .next p (e.add d) r := by
  refine ⟨1, fun n R hR => ?_⟩
  unfold rd
  rw [if_neg (by rw [hq]; decide)]
  exact hR
theorem rch_putq {s : List UInt8} {p : Nat} (d : Dt) (e f : En) (r : List En) (hq : e.q = true) : Rch s (.put d) p e (f :: r) (.put (e.add d).dt) p f r := by
  refine ⟨1, fun n R hR => ?_⟩
  unfold rd
  rw [if_pos hq]
  exact hR
def En.adds (e : En) (l : List Dt) : En := ⟨e.pl, e.q, e.ds ++ l⟩
theorem En.adds_nil (e : En) : e.adds [] = e := by simp [En.adds]
theorem En.adds_cons (e : En) (d : Dt) (l : List Dt) : (e.add d).adds l = e.adds (d :: l) := by simp [En.adds, En.add]
theorem rch_leaf {s : List UInt8} {p : Nat} {k : Int} {u : ByteArray} {t rest : List UInt8} (h : Leaf t k u) (hs : s.drop p = t ++ rest) (hn : NoSign rest) (e : En) (r : List En) : Rch s .next p e r (.put (.mk k u [] [] p)) (p + t.length) e r := by
  obtain ⟨h1, ⟨c, hc, h2, h3⟩, h4⟩ := h rest hn
  obtain ⟨l, hl⟩ : ∃ l, t ++ rest = c :: l := by
    cases ht : t ++ rest with
    | nil => rw [ht] at hc; cases hc
    | cons x y => rw [ht] at hc; simp at hc; subst hc; exact ⟨_, rfl⟩
  have h5 := rch_next (e := e) (r := r) (hs.trans hl) (by rw [← hl]; exact h1)
  rw [if_neg h2, if_neg h3] at h5
  refine h5.trans ⟨1, fun n R hR => ?_⟩
  unfold rd
  rw [hs, h4]
  exact hR
mutual
theorem rch_wr {s : List UInt8} {p : Nat} {d : Dt} {t : List UInt8} (h : Wr p d t) : ∀ (e : En) (r : List En) (rest : List UInt8), s.drop p = t ++ rest → NoSign rest → r.length + d.dep ≤ 60 → Rch s .next p e r (.put d) (p + t.length) e r := by
  cases h with
  | leaf hl => intro e r rest hs hn _; exact rch_leaf hl hs hn e r
  | @list _ l b hb =>
    intro e r rest hs hn hd
    have hd : r.length + (1 + Dt.deps l) ≤ 60 := by simpa [Dt.dep] using hd
    have hs1 : s.drop p = 40 :: (b ++ (41 :: rest)) := by rw [hs]; simp
    have h1 := rch_open hs1 (.inl rfl) e r (by omega)
    have h2 := rch_wrs (s := s) hb ⟨p, false, []⟩ (e :: r) (41 :: rest) (drop_next hs1) (NoSign.cons (by decide)) rfl (by simp; omega)
    have h3 := rch_close (drop_more (drop_next hs1)) ((En.mk p false []).adds l) e r rfl
    have h4 := (h1.trans h2).trans h3
    have e1 : p + 1 + b.length + 1 = p + (40 :: (b ++ [41])).length := by simp; omega
    rw [e1] at h4
    exact h4
  | @quote _ d g b hg hb =>
    intro e r rest hs hn hd
    have hd : r.length + (1 + d.dep) ≤ 60 := by simpa [Dt.dep, Dt.deps] using hd
    have hs1 : s.drop p = 39 :: (g ++ (b ++ rest)) := by rw [hs]; simp
    have h1 := rch_open hs1 (.inr rfl) e r (by omega)
    have h2 := rch_gap (e := ⟨p, true, [.mk 3 qT [] [] p]⟩) (r := e :: r) hg (drop_next hs1)
    have h3 := rch_wr (s := s) hb ⟨p, true, [.mk 3 qT [] [] p]⟩ (e :: r) rest (drop_more (drop_next hs1)) hn (by simp; omega)
    have h4 := rch_putq (s := s) (p := p + 1 + g.length + b.length) d ⟨p, true, [.mk 3 qT [] [] p]⟩ e r rfl
    have h5 := ((h1.trans h2).trans h3).trans h4
    have e1 : p + 1 + g.length + b.length = p + (39 :: (g ++ b)).length := by simp; omega
    rw [e1] at h5
    exact h5
theorem rch_wrs {s : List UInt8} {p : Nat} {l : List Dt} {t : List UInt8} (h : Wrs p l t) : ∀ (e : En) (r : List En) (rest : List UInt8), s.drop p = t ++ rest → NoSign rest → e.q = false → r.length + Dt.deps l ≤ 60 → Rch s .next p e r .next (p + t.length) (e.adds l) r := by
  cases h with
  | nil hg => intro e r rest hs _ _ _; rw [En.adds_nil]; exact rch_gap hg hs e r
  | @cons _ d l g t b hg hd hl hn =>
    intro e r rest hs hr hq hdep
    have hdep : r.length + max d.dep (Dt.deps l) ≤ 60 := by simpa [Dt.deps] using hdep
    have hs1 : s.drop p = g ++ (t ++ (b ++ rest)) := by rw [hs]; simp
    have h1 := rch_gap hg hs1 e r
    have h2 := rch_wr (s := s) hd e r (b ++ rest) (drop_more hs1) (hn.append hr) (by omega)
    have h3 := rch_put (s := s) (p := p + g.length + t.length) d e r hq
    have h4 := rch_wrs (s := s) hl (e.add d) r rest (drop_more (drop_more hs1)) hr hq (by omega)
    have h5 := ((h1.trans h2).trans h3).trans h4
    rw [En.adds_cons] at h5
    have e1 : p + g.length + t.length + b.length = p + (g ++ (t ++ b)).length := by simp; omega
    rw [e1] at h5
    exact h5
end
/-- Read of a text that writes these data. -/
theorem rd_wrs {l : List Dt} {s : List UInt8} (h : Wrs 0 l s) (hd : Dt.deps l ≤ 60) : ∃ n, rd s n .next 0 ⟨0, false, []⟩ [] = some (.ok l) := by
  obtain ⟨k, hk⟩ := rch_wrs (s := s) h ⟨0, false, []⟩ [] [] (by rw [List.append_nil]; rfl) NoSign.nil rfl (by simpa using hd)
  refine ⟨2 + k, hk 2 _ ?_⟩
  unfold rd
  simp only [Nat.zero_add, List.drop_length, gapOf, Nat.add_zero]
  rw [List.getElem?_eq_none (Nat.le_refl _)]
  simp [rd, En.adds]
end Go.Proofs.YtkjcbaikebdmmaaDoor
