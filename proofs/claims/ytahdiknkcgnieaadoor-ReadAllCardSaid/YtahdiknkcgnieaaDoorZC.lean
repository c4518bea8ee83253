/- Read as a machine: more steps change nothing; it ends. -/
import Derived.Test.YtahdiknkcgnieaaDoorZB
import Derived.OwnWalk
namespace Go.Proofs.YtahdiknkcgnieaaDoor
open Go.RowKit Go.BigM
set_option linter.unusedVariables false
set_option linter.unusedSimpArgs false
theorem bAt_len {l t : List UInt8} (h : bAt l t = true) : t.length ≤ l.length := by
  unfold bAt at h
  have h1 : Lib.hasPrefix l t = true := by
    cases hp : Lib.hasPrefix l t with
    | true => rfl
    | false => simp [hp] at h
  unfold Lib.hasPrefix at h1
  exact (List.isPrefixOf_iff_prefix.1 h1).length_le
theorem tokOf_le {l : List UInt8} {k : Int} {t : ByteArray} {m : Nat} (h : tokOf l = some (k, t, m)) : m ≤ l.length := by
  have hr := rowOf_le sset l
  unfold tokOf at h
  split at h
  · cases hb : boolOf l with
    | none => rw [hb] at h; cases h
    | some b =>
      rw [hb] at h
      injection h with h; injection h with _ h; injection h with _ h
      unfold boolOf at hb
      split at hb
      · rename_i h1; have := bAt_len h1; simp at this; omega
      · split at hb
        · rename_i h1; have := bAt_len h1; simp at this; omega
        · cases hb
  · split at h
    · cases h
    · split at h
      · split at h
        · injection h with h; injection h with _ h; injection h with _ h; omega
        · cases h
      · split at h
        · cases h
        · injection h with h; injection h with _ h; injection h with _ h; omega
theorem rd_mono (s : List UInt8) : ∀ (n : Nat) (pc : Pc) (p : Nat) (e : En) (r : List En) (R : Rs), rd s n pc p e r = some R → rd s (n + 1) pc p e r = some R := by
  intro n
  induction n with
  | zero => intro pc p e r R h; cases h
  | succ n ih =>
    intro pc p e r R h
    cases pc with
    | next =>
      unfold rd at h ⊢
      split at h
      · exact ih _ _ _ _ _ h
      · split at h
        · rename_i h1; rw [if_pos h1]; exact ih _ _ _ _ _ h
        · rename_i h1
          rw [if_neg h1]
          split at h
          · rename_i h2; rw [if_pos h2]; exact ih _ _ _ _ _ h
          · rename_i h2; rw [if_neg h2]; exact ih _ _ _ _ _ h
    | begin =>
      unfold rd at h ⊢
      split at h
      · cases h
      · split at h
        · rename_i h1; rw [if_pos h1]; exact h
        · rename_i h1; rw [if_neg h1]; exact ih _ _ _ _ _ h
    | finish =>
      unfold rd at h ⊢
      split at h
      · exact h
      · split at h
        · rename_i h1; rw [if_pos h1]; exact h
        · rename_i h1; rw [if_neg h1]; exact ih _ _ _ _ _ h
    | token =>
      unfold rd at h ⊢
      split at h
      · exact h
      · exact ih _ _ _ _ _ h
    | put d =>
      unfold rd at h ⊢
      split at h
      · rename_i h1
        rw [if_pos h1]
        split at h
        · cases h
        · exact ih _ _ _ _ _ h
      · rename_i h1; rw [if_neg h1]; exact ih _ _ _ _ _ h
    | stop => unfold rd at h ⊢; exact h
theorem rd_more {s : List UInt8} {n m : Nat} {pc : Pc} {p : Nat} {e : En} {r : List En} {R : Rs} (h : rd s n pc p e r = some R) (hm : n ≤ m) : rd s m pc p e r = some R := by
  obtain ⟨k, rfl⟩ : ∃ k, m = n + k := ⟨m - n, by omega⟩
  induction k with
  | zero => exact h
  | succ k ih => exact rd_mono s _ _ _ _ _ _ (ih (by omega))
/-- The outermost list is the text's own. -/
def Outer : En → List En → Prop
  | e, [] => e.q = false
  | _, f :: r => Outer f r
theorem Outer.add {e : En} {r : List En} (h : Outer e r) (d : Dt) : Outer (e.add d) r := by
  cases r with
  | nil => exact h
  | cons f r => exact h
def Pc.rank : Pc → Nat
  | .put _ => 3 | .next => 2 | _ => 1
def Pc.fits (s : List UInt8) (p : Nat) : Pc → Prop
  | .begin => p < s.length | .finish => p < s.length | .token => p < s.length | _ => p ≤ s.length
theorem rd_total (s : List UInt8) : ∀ (n : Nat) (pc : Pc) (p : Nat) (e : En) (r : List En), 8 * (2 * (s.length - p) + r.length) + pc.rank ≤ n → pc.fits s p → Outer e r → ∃ R, rd s n pc p e r = some R := by
  intro n
  induction n with
  | zero => intro pc p e r h; cases pc <;> simp [Pc.rank] at h
  | succ n ih =>
    intro pc p e r h hp ho
    cases pc with
    | next =>
      have hp : p ≤ s.length := hp
      have hg : gapOf false (s.drop p) ≤ s.length - p := by have := gapOf_le false (s.drop p); simpa using this
      simp only [Pc.rank] at h
      unfold rd
      split
      · exact ih _ _ _ _ (by simp [Pc.rank]; omega) (by simp only [Pc.fits]; omega) ho
      · rename_i b hb
        have hlt := (List.getElem?_eq_some_iff.1 hb).1
        split
        · exact ih _ _ _ _ (by simp [Pc.rank]; omega) (by simp only [Pc.fits]; omega) ho
        · split
          · exact ih _ _ _ _ (by simp [Pc.rank]; omega) (by simp only [Pc.fits]; omega) ho
          · exact ih _ _ _ _ (by simp [Pc.rank]; omega) (by simp only [Pc.fits]; omega) ho
    | begin =>
      have hp : p < s.length := hp
      simp only [Pc.rank] at h
      unfold rd
      rw [List.getElem?_eq_getElem hp]
      simp only
      split
      · exact ⟨_, rfl⟩
      · exact ih _ _ _ _ (by simp [Pc.rank]; omega) (by simp only [Pc.fits]; omega) ho
    | finish =>
      have hp : p < s.length := hp
      simp only [Pc.rank] at h
      unfold rd
      cases r with
      | nil => exact ⟨_, rfl⟩
      | cons f r =>
        simp only
        split
        · exact ⟨_, rfl⟩
        · exact ih _ _ _ _ (by simp [Pc.rank] at h ⊢; omega) (by simp only [Pc.fits]; omega) ho
    | token =>
      have hp : p < s.length := hp
      simp only [Pc.rank] at h
      unfold rd
      split
      · exact ⟨_, rfl⟩
      · rename_i k t m ht
        have h1 := tokOf_pos ht
        have h2 := tokOf_le ht
        simp only [List.length_drop] at h2
        exact ih _ _ _ _ (by simp [Pc.rank]; omega) (by simp only [Pc.fits]; omega) ho
    | put d =>
      have hp : p ≤ s.length := hp
      simp only [Pc.rank] at h
      unfold rd
      split
      · rename_i hq
        cases r with
        | nil => exact absurd hq (by rw [show e.q = false from ho]; decide)
        | cons f r => exact ih _ _ _ _ (by simp [Pc.rank] at h ⊢; omega) hp ho
      · exact ih _ _ _ _ (by simp [Pc.rank] at h ⊢; omega) hp (ho.add d)
    | stop => unfold rd; split <;> exact ⟨_, rfl⟩
theorem rd_ends (s : List UInt8) : ∃ R, rd s (16 * s.length + 2) .next 0 ⟨0, false, []⟩ [] = some R :=
  rd_total s _ _ _ _ _ (by simp [Pc.rank]; omega) (Nat.zero_le _) rfl
end Go.Proofs.YtahdiknkcgnieaaDoor
namespace Go.Proofs.YtahdiknkcgnieaaDoor
open Go.RowKit Go.BigM
set_option linter.unusedVariables false
set_option linter.unusedSimpArgs false
/-- What does not count. -/
def Gap (g : List UInt8) : Prop := ∀ rest, gapOf false (g ++ rest) = g.length + gapOf false rest
theorem Gap.nil : Gap [] := fun rest => by simp
theorem Gap.append {a b : List UInt8} (ha : Gap a) (hb : Gap b) : Gap (a ++ b) := fun rest => by
  rw [List.append_assoc, ha, hb, List.length_append]; omega
theorem Gap.blank {c : UInt8} (h : c = 9 ∨ c = 10 ∨ c = 32) : Gap [c] := fun rest => by
  rcases h with rfl | rfl | rfl
  · show gapOf false (9 :: rest) = _; rw [gapOf]; simp
  · show gapOf false (10 :: rest) = _; rw [gapOf]; simp
  · show gapOf false (32 :: rest) = _; rw [gapOf]; simp
/-- It begins with no sign. -/
def NoSign (l : List UInt8) : Prop := ∀ c, l.head? = some c → sset.contains c = false
theorem NoSign.nil : NoSign [] := fun c h => by simp at h
theorem NoSign.cons {c : UInt8} {l : List UInt8} (h : sset.contains c = false) : NoSign (c :: l) := fun d hd => by simp at hd; subst hd; exact h
theorem NoSign.append {a b : List UInt8} (ha : NoSign a) (hb : NoSign b) : NoSign (a ++ b) := by
  cases a with
  | nil => exact hb
  | cons c a => exact fun d hd => ha d (by simpa using hd)
/-- A text of a datum that is no list. -/
def Leaf (t : List UInt8) (k : Int) (u : ByteArray) : Prop :=
  ∀ rest, NoSign rest → gapOf false (t ++ rest) = 0 ∧ (∃ c, (t ++ rest).head? = some c ∧ ¬ (c = 40 ∨ c = 39) ∧ c ≠ 41) ∧ tokOf (t ++ rest) = some (k, u, t.length)
mutual
/-- How many lists stand in each other. -/
def Dt.dep : Dt → Nat
  | .mk k _ _ l _ => if k = 4 then 1 + Dt.deps l else 0
def Dt.deps : List Dt → Nat
  | [] => 0
  | d :: l => max d.dep (Dt.deps l)
end
mutual
/-- The text, from a place on, writes the datum. -/
inductive Wr : Nat → Dt → List UInt8 → Prop
  | leaf {p : Nat} {k : Int} {u : ByteArray} {t : List UInt8} : Leaf t k u → Wr p (.mk k u [] [] p) t
  | list {p : Nat} {l : List Dt} {b : List UInt8} : Wrs (p + 1) l b → Wr p (.mk 4 ⟨#[]⟩ [] l p) (40 :: (b ++ [41]))
  | quote {p : Nat} {d : Dt} {g b : List UInt8} : Gap g → Wr (p + 1 + g.length) d b → Wr p (.mk 4 ⟨#[]⟩ [] [.mk 3 qT [] [] p, d] p) (39 :: (g ++ b))
inductive Wrs : Nat → List Dt → List UInt8 → Prop
  | nil {p : Nat} {g : List UInt8} : Gap g → Wrs p [] g
  | cons {p : Nat} {d : Dt} {l : List Dt} {g t b : List UInt8} : Gap g → Wr (p + g.length) d t → Wrs (p + g.length + t.length) l b → NoSign b → Wrs p (d :: l) (g ++ (t ++ b))
end
/-- From one label on Read comes to another one. -/
def Rch (s : List UInt8) (pc : Pc) (p : Nat) (e : En) (r : List En) (pc' : Pc) (p' : Nat) (e' : En) (r' : List En) : Prop :=
  ∃ k, ∀ n R, rd s n pc' p' e' r' = some R → rd s (n + k) pc p e r = some R
theorem Rch.refl (s : List UInt8) (pc : Pc) (p : Nat) (e : En) (r : List En) : Rch s pc p e r pc p e r := ⟨0, fun n R h => h⟩
theorem Rch.trans {s : List UInt8} {a b c : Pc} {p q x : Nat} {e f g : En} {r r' r'' : List En} (h : Rch s a p e r b q f r') (k : Rch s b q f r' c x g r'') : Rch s a p e r c x g r'' := by
  obtain ⟨i, hi⟩ := h
  obtain ⟨j, hj⟩ := k
  refine ⟨j + i, fun n R h => ?_⟩
  rw [show n + (j + i) = n + j + i by omega]
  exact hi _ _ (hj _ _ h)
theorem rch_gap {s : List UInt8} {p : Nat} {g rest : List UInt8} (hg : Gap g) (hs : s.drop p = g ++ rest) (e : En) (r : List En) : Rch s .next p e r .next (p + g.length) e r := by
  refine ⟨0, fun n R h => ?_⟩
  cases n with
  | zero => cases h
  | succ n =>
    have h2 : s.drop (p + g.length) = rest := by rw [← List.drop_drop, hs]; simp
    unfold rd at h ⊢
    rw [hs, hg, ← Nat.add_assoc, ← h2]
    exact h
theorem get_drop {s : List UInt8} {p : Nat} {c : UInt8} {l : List UInt8} (h : s.drop p = c :: l) : s[p]? = some c := by
  have := List.getElem?_drop (xs := s) (i := p) (j := 0)
  rw [h] at this
  simpa using this.symm
theorem drop_next {s : List UInt8} {p : Nat} {c : UInt8} {l : List UInt8} (h : s.drop p = c :: l) : s.drop (p + 1) = l := by
  rw [← List.drop_drop, h]; rfl
theorem drop_more {s : List UInt8} {p : Nat} {t l : List UInt8} (h : s.drop p = t ++ l) : s.drop (p + t.length) = l := by
  rw [← List.drop_drop, h]; simp
theorem gap_no {c : UInt8} {l : List UInt8} (h : ([59, 9, 10, 32] : List UInt8).contains c = false) : gapOf false (c :: l) = 0 := by
  have h1 : c ≠ 59 ∧ c ≠ 9 ∧ c ≠ 10 ∧ c ≠ 32 := by simpa using h
  rw [gapOf]
  simp [h1]
theorem rch_next {s : List UInt8} {p : Nat} {c : UInt8} {l : List UInt8} (h : s.drop p = c :: l) (hg : gapOf false (c :: l) = 0) (e : En) (r : List En) :
    Rch s .next p e r (if c = 40 ∨ c = 39 then .begin else if c = 41 then .finish else .token) p e r := by
  refine ⟨1, fun n R hr => ?_⟩
  unfold rd
  rw [h, hg, Nat.add_zero, get_drop h]
  simp only
  split
  · rename_i h1; rw [if_pos h1] at hr; exact hr
  · rename_i h1
    rw [if_neg h1] at hr
    split
    · rename_i h2; rw [if_pos h2] at hr; exact hr
    · rename_i h2; rw [if_neg h2] at hr; exact hr
theorem rch_open {s : List UInt8} {p : Nat} {c : UInt8} {l : List UInt8} (h : s.drop p = c :: l) (hc : c = 40 ∨ c = 39) (e : En) (r : List En) (hr : r.length < 60) :
    Rch s .next p e r .next (p + 1) ⟨p, c == 39, if (c == 39) = true then [.mk 3 qT [] [] p] else []⟩ (e :: r) := by
  have h1 := rch_next h (gap_no (by rcases hc with rfl | rfl <;> decide)) e r
  rw [if_pos hc] at h1
  refine h1.trans ⟨1, fun n R hR => ?_⟩
  unfold rd
  rw [get_drop h]
  simp only
  rw [if_neg (by omega)]
  exact hR
theorem rch_close {s : List UInt8} {p : Nat} {l : List UInt8} (h : s.drop p = 41 :: l) (e f : En) (r : List En) (hq : e.q = false) :
    Rch s .next p e (f :: r) (.put e.dt) (p + 1) f r := by
  have h1 := rch_next h (gap_no (by decide)) e (f :: r)
  rw [if_neg (by decide), if_pos rfl] at h1
  refine h1.trans ⟨1, fun n R hR => ?_⟩
  unfold rd
  simp only
  rw [if_neg (by rw [hq]; decide)]
  exact hR
theorem rch_put {s : List UInt8} {p : Nat} (d : Dt) (e : En) (r : List En) (hq : e.q = false) : Rch s (.put d) p e r .next p (e.add d) r := by
  refine ⟨1, fun n R hR => ?_⟩
  unfold rd
  rw [if_neg (by rw [hq]; decide)]
  exact hR
theorem rch_putq {s : List UInt8} {p : Nat} (d : Dt) (e f : En) (r : List En) (hq : e.q = true) : Rch s (.put d) p e (f :: r) (.put (e.add d).dt) p f r := by
  refine ⟨1, fun n R hR => ?_⟩
  unfold rd
  rw [if_pos hq]
  exact hR
def En.adds (e : En) (l : List Dt) : En := ⟨e.pl, e.q, e.ds ++ l⟩
theorem En.adds_nil (e : En) : e.adds [] = e := by simp [En.adds]
theorem En.adds_cons (e : En) (d : Dt) (l : List Dt) : (e.add d).adds l = e.adds (d :: l) := by simp [En.adds, En.add]
theorem rch_leaf {s : List UInt8} {p : Nat} {k : Int} {u : ByteArray} {t rest : List UInt8} (h : Leaf t k u) (hs : s.drop p = t ++ rest) (hn : NoSign rest) (e : En) (r : List En) : Rch s .next p e r (.put (.mk k u [] [] p)) (p + t.length) e r := by
  obtain ⟨h1, ⟨c, hc, h2, h3⟩, h4⟩ := h rest hn
  obtain ⟨l, hl⟩ : ∃ l, t ++ rest = c :: l := by
    cases ht : t ++ rest with
    | nil => rw [ht] at hc; cases hc
    | cons x y => rw [ht] at hc; simp at hc; subst hc; exact ⟨_, rfl⟩
  have h5 := rch_next (e := e) (r := r) (hs.trans hl) (by rw [← hl]; exact h1)
  rw [if_neg h2, if_neg h3] at h5
  refine h5.trans ⟨1, fun n R hR => ?_⟩
  unfold rd
  rw [hs, h4]
  exact hR
mutual
theorem rch_wr {s : List UInt8} {p : Nat} {d : Dt} {t : List UInt8} (h : Wr p d t) : ∀ (e : En) (r : List En) (rest : List UInt8), s.drop p = t ++ rest → NoSign rest → r.length + d.dep ≤ 60 → Rch s .next p e r (.put d) (p + t.length) e r := by
  cases h with
  | leaf hl => intro e r rest hs hn _; exact rch_leaf hl hs hn e r
  | @list _ l b hb =>
    intro e r rest hs hn hd
    have hd : r.length + (1 + Dt.deps l) ≤ 60 := by simpa [Dt.dep] using hd
    have hs1 : s.drop p = 40 :: (b ++ (41 :: rest)) := by rw [hs]; simp
    have h1 := rch_open hs1 (.inl rfl) e r (by omega)
    have h2 := rch_wrs (s := s) hb ⟨p, false, []⟩ (e :: r) (41 :: rest) (drop_next hs1) (NoSign.cons (by decide)) rfl (by simp; omega)
    have h3 := rch_close (drop_more (drop_next hs1)) ((En.mk p false []).adds l) e r rfl
    have h4 := (h1.trans h2).trans h3
    have e1 : p + 1 + b.length + 1 = p + (40 :: (b ++ [41])).length := by simp; omega
    rw [e1] at h4
    exact h4
  | @quote _ d g b hg hb =>
    intro e r rest hs hn hd
    have hd : r.length + (1 + d.dep) ≤ 60 := by simpa [Dt.dep, Dt.deps] using hd
    have hs1 : s.drop p = 39 :: (g ++ (b ++ rest)) := by rw [hs]; simp
    have h1 := rch_open hs1 (.inr rfl) e r (by omega)
    have h2 := rch_gap (e := ⟨p, true, [.mk 3 qT [] [] p]⟩) (r := e :: r) hg (drop_next hs1)
    have h3 := rch_wr (s := s) hb ⟨p, true, [.mk 3 qT [] [] p]⟩ (e :: r) rest (drop_more (drop_next hs1)) hn (by simp; omega)
    have h4 := rch_putq (s := s) (p := p + 1 + g.length + b.length) d ⟨p, true, [.mk 3 qT [] [] p]⟩ e r rfl
    have h5 := ((h1.trans h2).trans h3).trans h4
    have e1 : p + 1 + g.length + b.length = p + (39 :: (g ++ b)).length := by simp; omega
    rw [e1] at h5
    exact h5
theorem rch_wrs {s : List UInt8} {p : Nat} {l : List Dt} {t : List UInt8} (h : Wrs p l t) : ∀ (e : En) (r : List En) (rest : List UInt8), s.drop p = t ++ rest → NoSign rest → e.q = false → r.length + Dt.deps l ≤ 60 → Rch s .next p e r .next (p + t.length) (e.adds l) r := by
  cases h with
  | nil hg => intro e r rest hs _ _ _; rw [En.adds_nil]; exact rch_gap hg hs e r
  | @cons _ d l g t b hg hd hl hn =>
    intro e r rest hs hr hq hdep
    have hdep : r.length + max d.dep (Dt.deps l) ≤ 60 := by simpa [Dt.deps] using hdep
    have hs1 : s.drop p = g ++ (t ++ (b ++ rest)) := by rw [hs]; simp
    have h1 := rch_gap hg hs1 e r
    have h2 := rch_wr (s := s) hd e r (b ++ rest) (drop_more hs1) (hn.append hr) (by omega)
    have h3 := rch_put (s := s) (p := p + g.length + t.length) d e r hq
    have h4 := rch_wrs (s := s) hl (e.add d) r rest (drop_more (drop_more hs1)) hr hq (by omega)
    have h5 := ((h1.trans h2).trans h3).trans h4
    rw [En.adds_cons] at h5
    have e1 : p + g.length + t.length + b.length = p + (g ++ (t ++ b)).length := by simp; omega
    rw [e1] at h5
    exact h5
end
/-- Read of a text that writes these data. -/
theorem rd_wrs {l : List Dt} {s : List UInt8} (h : Wrs 0 l s) (hd : Dt.deps l ≤ 60) : ∃ n, rd s n .next 0 ⟨0, false, []⟩ [] = some (.ok l) := by
  obtain ⟨k, hk⟩ := rch_wrs (s := s) h ⟨0, false, []⟩ [] [] (by rw [List.append_nil]; rfl) NoSign.nil rfl (by simpa using hd)
  refine ⟨2 + k, hk 2 _ ?_⟩
  unfold rd
  simp only [Nat.zero_add, List.drop_length, gapOf, Nat.add_zero]
  rw [List.getElem?_eq_none (Nat.le_refl _)]
  simp [rd, En.adds]
end Go.Proofs.YtahdiknkcgnieaaDoor
namespace Go.Proofs.YtahdiknkcgnieaaDoor
open Go.RowKit Go.BigM
set_option linter.unusedVariables false
set_option linter.unusedSimpArgs false
theorem sign_plain {c : UInt8} (h : sset.contains c = true) : ([59, 9, 10, 32] : List UInt8).contains c = false ∧ ¬ (c = 40 ∨ c = 39) ∧ c ≠ 41 ∧ c ≠ 35 := by
  have : ∀ c ∈ sset, ([59, 9, 10, 32] : List UInt8).contains c = false ∧ ¬ (c = 40 ∨ c = 39) ∧ c ≠ 41 ∧ c ≠ 35 := by decide
  exact this c (by simpa using h)
theorem row_word {t rest : List UInt8} (h : t.all sset.contains = true) (hn : NoSign rest) : rowOf sset (t ++ rest) = t.length := by
  refine rowOf_end sset (t ++ rest) t.length (by simp) (fun i hi hlt => ?_) (fun hlt => ?_)
  · rw [List.getElem_append_left hlt]
    exact List.all_eq_true.1 h _ (List.getElem_mem _)
  · rw [List.getElem_append_right (Nat.le_refl _)]
    refine hn _ ?_
    have hr : 0 < rest.length := by simp at hlt; omega
    simp only [Nat.sub_self]
    rw [List.head?_eq_getElem?, List.getElem?_eq_getElem hr]
theorem word_head {t rest : List UInt8} (h : t.all sset.contains = true) (h0 : t ≠ []) : ∃ c l, t ++ rest = c :: l ∧ sset.contains c = true := by
  cases t with
  | nil => exact absurd rfl h0
  | cons c t => exact ⟨c, t ++ rest, rfl, by simpa using (List.all_eq_true.1 h c (by simp))⟩
/-- What token makes of a row of signs. -/
def wordOf (t : List UInt8) : Option (Int × ByteArray × Nat) :=
  if isNum t then (if Canon (numOf t) then some (1, ⟨(numOf t).toArray⟩, t.length) else none) else if 0 < rowOf dset t then none else some (3, ⟨t.toArray⟩, t.length)
theorem tok_word {t rest : List UInt8} (h : t.all sset.contains = true) (h0 : t ≠ []) (hn : NoSign rest) : tokOf (t ++ rest) = wordOf t := by
  obtain ⟨c, l, hl, hc⟩ := word_head (rest := rest) h h0
  have hr := row_word h hn
  have h1 : Lib.hasPrefix (t ++ rest) [35] = false := by
    have := (sign_plain hc).2.2.2
    rw [hl]; unfold Lib.hasPrefix; simp [List.isPrefixOf]; exact fun (e : (35 : UInt8) = c) => this e.symm
  have h2 : t.length ≠ 0 := by simpa using h0
  unfold tokOf wordOf
  rw [h1, hr]
  simp only [Bool.false_eq_true, if_false, h2]
  rw [show List.take t.length (t ++ rest) = t by simp]
theorem leaf_word {t : List UInt8} {k : Int} {u : ByteArray} (h : t.all sset.contains = true) (h0 : t ≠ []) (hw : wordOf t = some (k, u, t.length)) : Leaf t k u := by
  intro rest hn
  obtain ⟨c, l, hl, hc⟩ := word_head (rest := rest) h h0
  obtain ⟨p1, p2, p3, _⟩ := sign_plain hc
  exact ⟨by rw [hl]; exact gap_no p1, ⟨c, by rw [hl]; rfl, p2, p3⟩, by rw [tok_word h h0 hn, hw]⟩
theorem row_no {rest : List UInt8} (hn : NoSign rest) : rowOf sset rest = 0 := by
  have := row_word (t := []) (rest := rest) rfl hn
  simpa using this
theorem leaf_true : Leaf [35, 116] 2 ⟨#[35, 116]⟩ := by
  intro rest hn
  refine ⟨gap_no (c := 35) (l := 116 :: rest) (by decide), ⟨35, rfl, by decide, by decide⟩, ?_⟩
  have h1 : Lib.hasPrefix ([35, 116] ++ rest) [35] = true := by simp [Lib.hasPrefix]
  have h2 : Lib.hasPrefix ([35, 116] ++ rest) [35, 116] = true := by simp [Lib.hasPrefix]
  have h3 : bAt ([35, 116] ++ rest) [35, 116] = true := by
    unfold bAt Lib.trimPrefix
    rw [h2]
    simp [row_no hn]
  unfold tokOf boolOf
  rw [h1, h3]
  simp
theorem leaf_false : Leaf [35, 102] 2 ⟨#[35, 102]⟩ := by
  intro rest hn
  refine ⟨gap_no (c := 35) (l := 102 :: rest) (by decide), ⟨35, rfl, by decide, by decide⟩, ?_⟩
  have h1 : Lib.hasPrefix ([35, 102] ++ rest) [35] = true := by simp [Lib.hasPrefix]
  have h2 : Lib.hasPrefix ([35, 102] ++ rest) [35, 102] = true := by simp [Lib.hasPrefix]
  have h4 : Lib.hasPrefix ([35, 102] ++ rest) [35, 116] = false := by simp [Lib.hasPrefix, List.isPrefixOf]
  have h3 : bAt ([35, 102] ++ rest) [35, 102] = true := by
    unfold bAt Lib.trimPrefix
    rw [h2]
    simp [row_no hn]
  have h5 : bAt ([35, 102] ++ rest) [35, 116] = false := by
    unfold bAt
    rw [h4]; rfl
  unfold tokOf boolOf
  rw [h1, h3, h5]
  simp
/-- A datum that Read can take: its text is told by it. -/
inductive Rdb : Dt → Prop
  | leaf {k : Int} {u : ByteArray} {p : Int} : k ≠ 4 → (∀ c ∈ u.data.toList, c ≠ 32) → Leaf u.data.toList k u → Rdb (.mk k u [] [] p)
  | list {l : List Dt} {p : Int} : (∀ d ∈ l, Rdb d) → Rdb (.mk 4 ⟨#[]⟩ [] l p)
end Go.Proofs.YtahdiknkcgnieaaDoor
namespace Go.Proofs.YtahdiknkcgnieaaDoor
open Go.RowKit Go.BigM
set_option linter.unusedVariables false
set_option linter.unusedSimpArgs false
mutual
/-- The datum whose text begins at a place. -/
def Dt.plc (p : Nat) : Dt → Dt
  | .mk k t ms l _ => .mk k t ms (Dt.plcs (p + 1) l) p
def Dt.plcs (p : Nat) : List Dt → List Dt
  | [] => []
  | d :: l => d.plc p :: Dt.plcs (p + d.txt.length + 1) l
end
/-- Texts, a blank behind each. -/
def Dt.txte : List Dt → List UInt8
  | [] => []
  | d :: l => d.txt ++ (32 :: Dt.txte l)
theorem Wrs.gap {p : Nat} {l : List Dt} {g b : List UInt8} (hg : Gap g) (h : Wrs (p + g.length) l b) : Wrs p l (g ++ b) := by
  cases h with
  | nil h2 => exact .nil (hg.append h2)
  | @cons _ d l g' t b h2 h3 h4 h5 =>
    have e : g ++ (g' ++ (t ++ b)) = (g ++ g') ++ (t ++ b) := by simp
    rw [e]
    refine .cons (hg.append h2) ?_ ?_ h5
    · rw [List.length_append, ← Nat.add_assoc]; exact h3
    · rw [List.length_append, ← Nat.add_assoc]; exact h4
theorem Wrs.append : ∀ {l : List Dt} {p : Nat} {m : List Dt} {a b : List UInt8}, Wrs p l a → Wrs (p + a.length) m b → NoSign b → Wrs p (l ++ m) (a ++ b)
  | _, p, m, _, b, .nil h, hb, hn => Wrs.gap h hb
  | _, p, m, _, b, .cons (l := l) (g := g) (t := t) (b := b') h2 h3 h4 h5, hb, hn => by
    have e : (g ++ (t ++ b')) ++ b = g ++ (t ++ (b' ++ b)) := by simp
    rw [e]
    refine .cons h2 h3 (Wrs.append h4 ?_ hn) (h5.append hn)
    have e2 : p + g.length + t.length + b'.length = p + (g ++ (t ++ b')).length := by simp; omega
    rw [e2]; exact hb
theorem txtr_nosign (l : List Dt) : NoSign (Dt.txtr l) := by
  cases l with
  | nil => exact NoSign.nil
  | cons d l => exact NoSign.cons (by decide)
mutual
theorem wr_plc : ∀ (d : Dt) (p : Nat), Rdb d → Wr p (d.plc p) d.txt
  | .mk k t ms l q, p, h => by
    cases h with
    | leaf hk hu hl => simp only [Dt.plc, Dt.plcs, Dt.txt, hk, if_false]; exact .leaf hl
    | list hl => simp only [Dt.plc, Dt.txt, if_true]; exact .list (wrs_plcs l (p + 1) hl)
theorem wrs_plcs : ∀ (l : List Dt) (p : Nat), (∀ d ∈ l, Rdb d) → Wrs p (Dt.plcs p l) (Dt.txts l)
  | [], p, _ => .nil Gap.nil
  | d :: l, p, h => by
    have h1 := wr_plc d p (h d (by simp))
    have h2 := wrs_plcr l (p + d.txt.length) (fun e he => h e (by simp [he]))
    exact Wrs.cons (g := []) Gap.nil h1 h2 (txtr_nosign l)
theorem wrs_plcr : ∀ (l : List Dt) (p : Nat), (∀ d ∈ l, Rdb d) → Wrs p (Dt.plcs (p + 1) l) (Dt.txtr l)
  | [], p, _ => .nil Gap.nil
  | d :: l, p, h => by
    have h1 := wr_plc d (p + 1) (h d (by simp))
    have h2 := wrs_plcr l (p + 1 + d.txt.length) (fun e he => h e (by simp [he]))
    exact Wrs.cons (g := [32]) (Gap.blank (by simp)) h1 h2 (txtr_nosign l)
end
theorem wrs_plce : ∀ (l : List Dt) (p : Nat), (∀ d ∈ l, Rdb d) → Wrs p (Dt.plcs p l) (Dt.txte l)
  | [], p, _ => .nil Gap.nil
  | d :: l, p, h => by
    have h1 := wr_plc d p (h d (by simp))
    have h2 := wrs_plce l (p + d.txt.length + 1) (fun e he => h e (by simp [he]))
    exact Wrs.cons (g := []) Gap.nil h1 (Wrs.gap (g := [32]) (Gap.blank (by simp)) h2) (NoSign.cons (by decide))
/-- The same, with other blanks: the one that stands as number n is rep n. -/
def rep (f : Nat → List UInt8) : Nat → List UInt8 → List UInt8
  | _, [] => []
  | n, c :: l => if c = 32 then f n ++ rep f (n + 1) l else c :: rep f n l
theorem rep_append (f : Nat → List UInt8) : ∀ (a b : List UInt8) (n : Nat), rep f n (a ++ b) = rep f n a ++ rep f (n + a.count 32) b
  | [], b, n => by simp [rep]
  | c :: a, b, n => by
    by_cases h : c = 32
    · subst h
      simp only [List.cons_append, rep, if_true]
      rw [rep_append f a b (n + 1)]
      simp [List.count_cons]
      rw [show n + 1 + List.count 32 a = n + (List.count 32 a + 1) by omega]
    · have h' : (c == 32) = false := by simpa using h
      simp only [List.cons_append, rep, h, if_false]
      rw [rep_append f a b n]
      simp [List.count_cons, h]
theorem rep_none (f : Nat → List UInt8) : ∀ (a : List UInt8) (n : Nat), (∀ c ∈ a, c ≠ 32) → rep f n a = a
  | [], n, _ => rfl
  | c :: a, n, h => by
    simp only [rep, h c (by simp), if_false]
    rw [rep_none f a n (fun c hc => h c (by simp [hc]))]
theorem rep_one (f : Nat → List UInt8) (n : Nat) : rep f n [32] = f n := by simp [rep]
mutual
/-- The same but for places. -/
def Dt.sim : Dt → Dt → Prop
  | .mk k t ms l _, .mk k' t' ms' l' _ => k = k' ∧ t = t' ∧ ms = ms' ∧ Dt.sims l l'
def Dt.sims : List Dt → List Dt → Prop
  | [], [] => True
  | d :: l, e :: m => d.sim e ∧ Dt.sims l m
  | [], _ :: _ => False
  | _ :: _, [] => False
end
mutual
theorem Dt.sim.same : ∀ (d e : Dt), d.sim e → d.same e = true
  | .mk k t ms l _, .mk k' t' ms' l' _, h => by
    obtain ⟨rfl, rfl, rfl, h4⟩ := h
    simp [Dt.same, Dt.sims.same l l' h4]
theorem Dt.sims.same : ∀ (l m : List Dt), Dt.sims l m → Dt.sames l m = true
  | [], [], _ => by simp [Dt.sames]
  | d :: l, e :: m, h => by simp [Dt.sames, Dt.sim.same d e h.1, Dt.sims.same l m h.2]
  | [], _ :: _, h => h.elim
  | _ :: _, [], h => h.elim
end
mutual
theorem Dt.sim.plc : ∀ (d : Dt) (p : Nat), d.sim (d.plc p)
  | .mk k t ms l _, p => ⟨rfl, rfl, rfl, Dt.sims.plcs l (p + 1)⟩
theorem Dt.sims.plcs : ∀ (l : List Dt) (p : Nat), Dt.sims l (Dt.plcs p l)
  | [], p => trivial
  | d :: l, p => ⟨Dt.sim.plc d p, Dt.sims.plcs l _⟩
end
mutual
theorem Dt.sim.symm : ∀ (d e : Dt), d.sim e → e.sim d
  | .mk k t ms l _, .mk k' t' ms' l' _, h => by
    obtain ⟨rfl, rfl, rfl, h4⟩ := h
    exact ⟨rfl, rfl, rfl, Dt.sims.symm l l' h4⟩
theorem Dt.sims.symm : ∀ (l m : List Dt), Dt.sims l m → Dt.sims m l
  | [], [], _ => trivial
  | d :: l, e :: m, h => ⟨Dt.sim.symm d e h.1, Dt.sims.symm l m h.2⟩
  | [], _ :: _, h => h.elim
  | _ :: _, [], h => h.elim
end
mutual
theorem Dt.sim.trans : ∀ (a b c : Dt), a.sim b → b.sim c → a.sim c
  | .mk k t ms l _, .mk k' t' ms' l' _, .mk _ _ _ l'' _, h, i => by
    obtain ⟨rfl, rfl, rfl, h4⟩ := h
    obtain ⟨rfl, rfl, rfl, i4⟩ := i
    exact ⟨rfl, rfl, rfl, Dt.sims.trans l l' l'' h4 i4⟩
theorem Dt.sims.trans : ∀ (a b c : List Dt), Dt.sims a b → Dt.sims b c → Dt.sims a c
  | [], [], [], _, _ => trivial
  | a :: l, b :: m, c :: n, h, i => ⟨Dt.sim.trans a b c h.1 i.1, Dt.sims.trans l m n h.2 i.2⟩
  | [], [], _ :: _, _, i => i.elim
  | [], _ :: _, _, h, _ => h.elim
  | _ :: _, [], _, h, _ => h.elim
  | _ :: _, _ :: _, [], _, i => i.elim
end
theorem Dt.sims.length : ∀ {l m : List Dt}, Dt.sims l m → l.length = m.length
  | [], [], _ => rfl
  | d :: l, e :: m, h => by simp [Dt.sims.length h.2]
  | [], _ :: _, h => h.elim
  | _ :: _, [], h => h.elim
theorem Dt.sims.get : ∀ {l m : List Dt}, Dt.sims l m → ∀ (j : Nat) (h1 : j < l.length) (h2 : j < m.length), l[j].sim m[j]
  | d :: l, e :: m, h, 0, _, _ => h.1
  | d :: l, e :: m, h, j + 1, h1, h2 => Dt.sims.get h.2 j (by simpa using h1) (by simpa using h2)
  | [], _, _, j, h1, _ => by simp at h1
  | _ :: _, [], h, _, _, _ => h.elim
mutual
theorem Dt.sim.dep : ∀ (d e : Dt), d.sim e → d.dep = e.dep
  | .mk k t ms l _, .mk k' t' ms' l' _, h => by
    obtain ⟨rfl, rfl, rfl, h4⟩ := h
    simp [Dt.dep, Dt.sims.dep l l' h4]
theorem Dt.sims.dep : ∀ (l m : List Dt), Dt.sims l m → Dt.deps l = Dt.deps m
  | [], [], _ => rfl
  | d :: l, e :: m, h => by simp [Dt.deps, Dt.sim.dep d e h.1, Dt.sims.dep l m h.2]
  | [], _ :: _, h => h.elim
  | _ :: _, [], h => h.elim
end
/-- Blanks as they may stand in the place of one. -/
def Seps (f : Nat → List UInt8) : Prop := ∀ n, Gap (f n) ∧ NoSign (f n) ∧ f n ≠ []
theorem nosign_sep {f : Nat → List UInt8} (hf : Seps f) (n : Nat) (b : List UInt8) : NoSign (f n ++ b) := by
  obtain ⟨_, h2, h3⟩ := hf n
  cases h : f n with
  | nil => exact absurd h h3
  | cons c l => rw [h] at h2; exact fun d hd => h2 d (by simpa using hd)
mutual
theorem wr_rep {f : Nat → List UInt8} (hf : Seps f) : ∀ (d : Dt) (n p : Nat), Rdb d → ∃ e, Wr p e (rep f n d.txt) ∧ d.sim e
  | .mk k t ms l q, n, p, h => by
    cases h with
    | leaf hk hu hl =>
      simp only [Dt.txt, hk, if_false]
      rw [rep_none f _ _ hu]
      exact ⟨_, .leaf hl, rfl, rfl, rfl, trivial⟩
    | list hl =>
      simp only [Dt.txt, if_true]
      obtain ⟨m, h1, h2⟩ := wrs_rep hf l n (p + 1) hl
      have e1 : rep f n (40 :: (Dt.txts l ++ [41])) = 40 :: (rep f n (Dt.txts l) ++ [41]) := by
        simp only [rep, show ¬ ((40 : UInt8) = 32) by decide, if_false]
        rw [rep_append]
        congr 1
      rw [e1]
      exact ⟨_, .list h1, rfl, rfl, rfl, h2⟩
theorem wrs_rep {f : Nat → List UInt8} (hf : Seps f) : ∀ (l : List Dt) (n p : Nat), (∀ d ∈ l, Rdb d) → ∃ m, Wrs p m (rep f n (Dt.txts l)) ∧ Dt.sims l m
  | [], n, p, _ => ⟨[], .nil Gap.nil, trivial⟩
  | d :: l, n, p, h => by
    obtain ⟨e, h1, h2⟩ := wr_rep hf d n p (h d (by simp))
    obtain ⟨m, h3, h4⟩ := wrs_repr hf l (n + d.txt.count 32) (p + (rep f n d.txt).length) (fun e he => h e (by simp [he]))
    refine ⟨e :: m, ?_, h2, h4⟩
    show Wrs p _ (rep f n (d.txt ++ Dt.txtr l))
    rw [rep_append]
    refine Wrs.cons (g := []) Gap.nil h1 h3 ?_
    cases l with
    | nil => exact NoSign.nil
    | cons d' l' =>
      show NoSign (rep f _ (32 :: (d'.txt ++ Dt.txtr l')))
      simp only [rep, if_true]
      exact nosign_sep hf _ _
theorem wrs_repr {f : Nat → List UInt8} (hf : Seps f) : ∀ (l : List Dt) (n p : Nat), (∀ d ∈ l, Rdb d) → ∃ m, Wrs p m (rep f n (Dt.txtr l)) ∧ Dt.sims l m
  | [], n, p, _ => ⟨[], .nil Gap.nil, trivial⟩
  | d :: l, n, p, h => by
    obtain ⟨e, h1, h2⟩ := wr_rep hf d (n + 1) (p + (f n).length) (h d (by simp))
    obtain ⟨m, h3, h4⟩ := wrs_repr hf l (n + 1 + d.txt.count 32) (p + (f n).length + (rep f (n + 1) d.txt).length) (fun e he => h e (by simp [he]))
    refine ⟨e :: m, ?_, h2, h4⟩
    show Wrs p _ (rep f n (32 :: (d.txt ++ Dt.txtr l)))
    simp only [rep, if_true]
    rw [rep_append]
    refine Wrs.cons (hf n).1 h1 h3 ?_
    cases l with
    | nil => exact NoSign.nil
    | cons d' l' =>
      show NoSign (rep f _ (32 :: (d'.txt ++ Dt.txtr l')))
      simp only [rep, if_true]
      exact nosign_sep hf _ _
end
end Go.Proofs.YtahdiknkcgnieaaDoor
namespace Go
section
variable {P : Program} {a : Act} {w : World} {Q : Exit → Act → World → Prop}
theorem Exit.jumps_mono {J J' : Nat → Act → World → Prop} (h : ∀ l a w, J l a w → J' l a w) : ∀ e a w, Exit.jumps J Q e a w → Exit.jumps J' Q e a w
  | .goto l, a, w, hj => h l a w hj
  | .normal, _, _, hj => hj
  | .exit _, _, _, hj => hj
  | .ret, _, _, hj => hj
  | .panic _, _, _, hj => hj
  | .outgrown, _, _, hj => hj
theorem wp_scope_fuel2 {c : Code} (J : Nat → Nat → Act → World → Prop) (l1 : Nat)
    (pass1 : ∀ n a w, J n l1 a w → ∃ x', findLabel c l1 = some (Code.skip.seq x') ∧ x'.wp P (Exit.jumps (fun l' a' w' => ∃ n', n' < n ∧ J n' l' a' w') Q) a w)
    (pass : (∀ n m a w x', n ≤ m → J n l1 a w → findLabel c l1 = some (Code.skip.seq x') → x'.wp P (Exit.jumps (fun l' a' w' => ∃ n', n' < m ∧ J n' l' a' w') Q) a w) → ∀ n l a w, l ≠ l1 → J n l a w →
      ∃ x', findLabel c l = some (Code.skip.seq x') ∧ x'.wp P (Exit.jumps (fun l' a' w' => ∃ n', n' < n ∧ J n' l' a' w') Q) a w)
    (first : (∀ n l a w x', J n l a w → findLabel c l = some (Code.skip.seq x') → x'.wp P (Exit.jumps (fun l' a' w' => ∃ n', J n' l' a' w') Q) a w) → c.wp P (Exit.jumps (fun l' a' w' => ∃ n', J n' l' a' w') Q) a w) : (Code.scope c).wp P Q a w := by
  have all : ∀ n l a w, J n l a w → ∃ x', findLabel c l = some (Code.skip.seq x') ∧ x'.wp P (Exit.jumps (fun l' a' w' => ∃ n', n' < n ∧ J n' l' a' w') Q) a w := by
    intro n l a w hJ
    by_cases hl : l = l1
    · subst hl; exact pass1 n a w hJ
    · refine pass (fun n m a w x' hm hj hf => ?_) n l a w hl hJ
      obtain ⟨y, hy, hw⟩ := pass1 n a w hj
      rw [hf] at hy
      injection hy with hy
      injection hy with _ hy
      subst hy
      exact wp_mono hw (Exit.jumps_mono fun l a w ⟨k, hk, hj⟩ => ⟨k, by omega, hj⟩)
  refine wp_scope_fuel J (first fun n l a w x' hj hf => ?_) (fun n l a w hJ => ?_)
  · obtain ⟨y, hy, hw⟩ := all n l a w hj
    rw [hf] at hy
    injection hy with hy
    injection hy with _ hy
    subst hy
    exact wp_mono hw (Exit.jumps_mono fun l a w ⟨k, _, hj⟩ => ⟨k, hj⟩)
  · obtain ⟨y, hy, hw⟩ := all n l a w hJ
    exact ⟨_, hy, wp_seq (wp_skip hw)⟩
end
end Go
namespace Go.Proofs.YtahdiknkcgnieaaDoor
open Go.RowKit
set_option linter.unusedVariables false
set_option linter.unusedSimpArgs false
/-- The frame at a label. -/
def Tm (s : ByteArray) (p bd : Nat) (v : Value) (a : Act) : Prop := ∃ f : Nat → Value, a = { tmps := #[.string s, f 1, .slice none 0 0, .int .i64 p, .int .i64 0, .pointer (some ⟨bd, 0, none⟩), f 6, v, f 8, f 9, f 10, f 11, f 12, f 13, f 14, f 15, f 16, f 17, f 18, f 19, f 20, f 21, f 22, f 23, f 24, f 25, f 26, f 27, f 28, f 29, f 30, f 31, f 32, f 33, f 34, f 35, f 36, f 37, f 38, f 39, f 40, f 41, f 42, f 43, f 44, f 45, f 46, f 47, f 48, f 49, f 50, f 51, f 52, f 53, f 54, f 55, f 56, f 57, f 58, f 59, f 60, f 61, f 62, f 63, f 64, f 65, f 66, f 67, f 68, f 69, f 70, f 71, f 72, f 73, f 74, f 75, f 76, f 77, f 78, f 79, f 80, f 81, f 82, f 83, f 84, f 85, f 86, f 87, f 88, f 89, f 90, f 91, f 92, f 93, f 94, f 95, f 96, f 97, f 98, f 99, f 100, f 101, f 102, f 103, f 104, f 105, f 106, f 107, f 108, f 109], defers := [] }
theorem Tm.intro {s : ByteArray} {p bd : Nat} {v : Value} {t : Array Value} (h : t = #[.string s, t.getD 1 undef, .slice none 0 0, .int .i64 p, .int .i64 0, .pointer (some ⟨bd, 0, none⟩), t.getD 6 undef, v, t.getD 8 undef, t.getD 9 undef, t.getD 10 undef, t.getD 11 undef, t.getD 12 undef, t.getD 13 undef, t.getD 14 undef, t.getD 15 undef, t.getD 16 undef, t.getD 17 undef, t.getD 18 undef, t.getD 19 undef, t.getD 20 undef, t.getD 21 undef, t.getD 22 undef, t.getD 23 undef, t.getD 24 undef, t.getD 25 undef, t.getD 26 undef, t.getD 27 undef, t.getD 28 undef, t.getD 29 undef, t.getD 30 undef, t.getD 31 undef, t.getD 32 undef, t.getD 33 undef, t.getD 34 undef, t.getD 35 undef, t.getD 36 undef, t.getD 37 undef, t.getD 38 undef, t.getD 39 undef, t.getD 40 undef, t.getD 41 undef, t.getD 42 undef, t.getD 43 undef, t.getD 44 undef, t.getD 45 undef, t.getD 46 undef, t.getD 47 undef, t.getD 48 undef, t.getD 49 undef, t.getD 50 undef, t.getD 51 undef, t.getD 52 undef, t.getD 53 undef, t.getD 54 undef, t.getD 55 undef, t.getD 56 undef, t.getD 57 undef, t.getD 58 undef, t.getD 59 undef, t.getD 60 undef, t.getD 61 undef, t.getD 62 undef, t.getD 63 undef, t.getD 64 undef, t.getD 65 undef, t.getD 66 undef, t.getD 67 undef, t.getD 68 undef, t.getD 69 undef, t.getD 70 undef, t.getD 71 undef, t.getD 72 undef, t.getD 73 undef, t.getD 74 undef, t.getD 75 undef, t.getD 76 undef, t.getD 77 undef, t.getD 78 undef, t.getD 79 undef, t.getD 80 undef, t.getD 81 undef, t.getD 82 undef, t.getD 83 undef, t.getD 84 undef, t.getD 85 undef, t.getD 86 undef, t.getD 87 undef, t.getD 88 undef, t.getD 89 undef, t.getD 90 undef, t.getD 91 undef, t.getD 92 undef, t.getD 93 undef, t.getD 94 undef, t.getD 95 undef, t.getD 96 undef, t.getD 97 undef, t.getD 98 undef, t.getD 99 undef, t.getD 100 undef, t.getD 101 undef, t.getD 102 undef, t.getD 103 undef, t.getD 104 undef, t.getD 105 undef, t.getD 106 undef, t.getD 107 undef, t.getD 108 undef, t.getD 109 undef]) : Tm s p bd v { tmps := t, defers := [] } := ⟨fun i => t.getD i undef, by rw [← h]⟩
def Pc.label : Pc → Nat
  | .next => 0 | .stop => 1 | .begin => 2 | .finish => 3 | .token => 4 | .put _ => 5
/-- What holds at a label: n steps from here Read answers R. -/
def Jr (s : ByteArray) (w0 : World) (R : Rs) (n l : Nat) (a : Act) (w : World) : Prop :=
  ∃ (p : Nat) (v : Value) (e : En) (r : List En) (D : Nat → Prop) (pc : Pc) (C : Array Value), Tm s p w0.heap.size v a ∧ pc.label = l ∧ rd s.data.toList n pc p e r = some R ∧ StackAt D (w0.heap.size + 1) w v e r ∧ Below w0.heap.size w0 w ∧ w0.heap.size + 1 ≤ w.heap.size ∧
    Boxed w0.heap.size C w ∧ C.size = 5 ∧ (∀ d, pc = .put d → Dt.At D w d C) ∧ p ≤ s.size ∧ r.length ≤ 60 ∧ (∀ x, x ∈ e :: r → x.ds.length + (match pc with | .put _ => 1 | _ => 0) ≤ p) ∧ (pc = .begin → p < s.size) ∧ (pc = .finish → p < s.size)
/-- What Read leaves. -/
def RetRead (w0 : World) (R : Rs) (e : Ending) (w : World) : Prop :=
  Below w0.heap.size w0 w ∧ match R with
  | .ok ds => ∃ v, e = .returned (.tuple #[v, .int .i64 0, .int .i64 0]) ∧ LAt (fun g => w0.heap.size ≤ g) w v ds
  | .err c p => e = .returned (.tuple #[.slice none 0 0, .int .i64 p, .int .i64 c])
end Go.Proofs.YtahdiknkcgnieaaDoor
namespace Go.Proofs.YtahdiknkcgnieaaDoor
open Go.RowKit
set_option linter.unusedVariables false
set_option linter.unusedSimpArgs false
theorem OwnS.low {S : Nat → Prop} {B B' : Nat} {w : World} {v : Value} {ds : List Dt} (h : OwnS S B w v ds) (hB : B' ≤ B) : OwnS S B' w v ds := by
  obtain ⟨xs, hown, hd⟩ := h
  refine ⟨xs, ⟨hown.1, ?_⟩, hd⟩
  rcases hown.2 with h | ⟨g, cap, cur, rfl, hb, r⟩
  · exact .inl h
  · exact .inr ⟨g, cap, cur, rfl, by omega, r⟩
theorem push_world {w w1 w2 w9 : World} {g : Nat} (hb : Below w.heap.size w w1) (hsz : w.heap.size + 1 ≤ w1.heap.size) (h2 : Below w1.heap.size w1 w2) (hg : w2.grownBy w9 (some g)) (hB : w.heap.size + 1 ≤ g) {C : Array Value} (hx : Boxed w.heap.size C w1) :
    Below w.heap.size w w9 ∧ w.heap.size + 1 ≤ w9.heap.size ∧ Boxed w.heap.size C w9 := by
  have s2 := h2.size
  have s9 := hg.size
  have h3 : Below w.heap.size w w2 := hb.trans (h2.mono (by omega))
  refine ⟨h3.grown hg (by omega) (fun k hk => by injection hk with hk; omega), by omega, ?_⟩
  unfold Boxed at hx ⊢
  rw [hg.block _ (by omega) (fun e => by injection e with e; omega), h2.block _ (by omega)]
  exact hx
/-- A world in which only blocks below B have turned keeps the stack. -/
theorem StackAt.low {D : Nat → Prop} {B : Nat} {w w' : World} {v : Value} {e : En} {r : List En} (h : StackAt D B w v e r) (hs : w.heap.size ≤ w'.heap.size) (hb : ∀ x, B ≤ x → x < w.heap.size → w'.heap[x]? = w.heap[x]?) : StackAt D B w' v e r := by
  obtain ⟨g, c, xs, rfl, ho, hg, hD, hE⟩ := h
  have ent : ∀ (es : List En) (U : Nat → Prop), Ents D B w xs es U → Ents D B w' xs es U := by
    intro es
    induction es with
    | nil => intro U _; trivial
    | cons e r ih =>
      intro U h
      obtain ⟨lv, k, hc, hk, hl, hu, hr⟩ := h
      refine ⟨lv, k, hc, hk, hl.keep (fun x c hxo hh => ?_) (fun x c T fz hDx hh _ => ⟨fz, ?_⟩), hu, ih _ hr⟩
      · rw [hb x (hl.lt hxo).1 (Array.getElem?_eq_some_iff.1 hh).1]; exact hh
      · rw [hb x (hD x hDx).1 (Array.getElem?_eq_some_iff.1 hh).1]; exact hh
  refine ⟨g, c, xs, rfl, ⟨ho.1, ?_⟩, hg, fun x hx => ⟨(hD x hx).1, by have := (hD x hx).2; omega⟩, ent _ _ hE⟩
  rcases ho.2 with h | ⟨g1, cap, cur, e1, hB, hh, rr⟩
  · exact .inl h
  · exact .inr ⟨g1, cap, cur, e1, hB, by rw [hb _ hB (Array.getElem?_eq_some_iff.1 hh).1]; exact hh, rr⟩
theorem byte_at (s : ByteArray) (i : Nat) (h : i < s.size) : s.data.toList[i]? = some s[i] := by
  rw [List.getElem?_eq_getElem (by rw [← Lib.size_eq]; exact h)]
  simp
  rfl
theorem StackAt.dat {D : Nat → Prop} {B : Nat} {w : World} {v : Value} {e : En} {r : List En} (h : StackAt D B w v e r) : ∀ x, D x → B ≤ x ∧ x < w.heap.size := by
  obtain ⟨g, c, xs, rfl, ho, hg, hD, hE⟩ := h
  exact hD
theorem setRow_box (w : World) (g : Nat) (C cs : Array Value) (h : w.heap[g]? = some (.cells C 40 (0, 0))) : (w.setRow g cs).heap[g]? = some (.cells cs 40 (0, 0)) := setRow_heap w g C cs 40 (0, 0) h
/-- The part that is put lies in its box. -/
theorem box_set {w w1 w2 : World} {C : Array Value} (h : Below w.heap.size w w1 ∧ w.heap.size + 1 ≤ w1.heap.size ∧ Boxed w.heap.size C w1) (h2 : Below w1.heap.size w1 w2) (cs : Array Value) :
    (Below w.heap.size w (w2.setRow w.heap.size cs) ∧ w.heap.size + 1 ≤ (w2.setRow w.heap.size cs).heap.size ∧ Boxed w.heap.size cs (w2.setRow w.heap.size cs)) ∧ (∀ x, w.heap.size + 1 ≤ x → x < w2.heap.size → (w2.setRow w.heap.size cs).heap[x]? = w2.heap[x]?) ∧ w2.heap.size ≤ (w2.setRow w.heap.size cs).heap.size := by
  obtain ⟨hb, hs, hx⟩ := h
  have s2 := h2.size
  refine ⟨⟨below_setRowB (hb.trans (h2.mono (by omega))) _ _ (Nat.le_refl _), by simp; omega, ?_⟩, fun x h1 _ => ?_, by simp⟩
  · refine setRow_box w2 _ C cs ?_
    unfold Boxed at hx
    rw [h2.block _ (by omega)]; exact hx
  · exact setRow_other w2 _ x cs (by omega)
theorem box_keep {w w1 w2 : World} {C : Array Value} (h : Below w.heap.size w w1 ∧ w.heap.size + 1 ≤ w1.heap.size ∧ Boxed w.heap.size C w1) (h2 : Below w1.heap.size w1 w2) : w2.heap[w.heap.size]? = some (.cells C 40 (0, 0)) := by
  rw [h2.block _ (by omega)]; exact h.2.2
theorem keeps_of {D : Nat → Prop} {B : Nat} {w w' : World} (hD : ∀ x, D x → B ≤ x ∧ x < w.heap.size) (h : ∀ x, B ≤ x → x < w.heap.size → w'.heap[x]? = w.heap[x]?) : Keeps D w w' := by
  intro g c T fz hd hg _
  exact ⟨fz, by rw [h g (hD g hd).1 (hD g hd).2]; exact hg⟩
/-- The place of the part in its box. -/
theorem box_at {w W : World} {a b c d e v : Value} (h : Below w.heap.size w W ∧ w.heap.size + 1 ≤ W.heap.size ∧ Boxed w.heap.size #[a, b, c, d, e] W) :
    (Below w.heap.size w (W.setCell ⟨w.heap.size, 4, none⟩ v) ∧ w.heap.size + 1 ≤ (W.setCell ⟨w.heap.size, 4, none⟩ v).heap.size ∧ Boxed w.heap.size #[a, b, c, d, v] (W.setCell ⟨w.heap.size, 4, none⟩ v)) ∧ (∀ x, w.heap.size + 1 ≤ x → (W.setCell ⟨w.heap.size, 4, none⟩ v).heap[x]? = W.heap[x]?) ∧ W.heap.size ≤ (W.setCell ⟨w.heap.size, 4, none⟩ v).heap.size := by
  obtain ⟨hb, hs, hx⟩ := h
  refine ⟨⟨hb.setCell (p := ⟨w.heap.size, 4, none⟩) (Nat.le_refl _) v, by simp [World.setCell]; omega, ?_⟩, fun x h1 => heap_setCell_other W _ x v (by simp; omega), by simp [World.setCell]⟩
  exact heap_setCell_same W _ 4 _ 40 v hx
/-- The world behind put. -/
theorem put_world {w w1 w2 : World} {D : Nat → Prop} {B g o : Nat} {arr : Array Value} {lv : Value} {ds : List Dt} {C : Array Value} (h : Below w.heap.size w w1 ∧ w.heap.size + 1 ≤ w1.heap.size ∧ Boxed w.heap.size C w1) (hp : PutDone D B g o arr lv ds w1 w2) (hg : w.heap.size < g) (hl : ∀ x, lv.ownBlock = some x → w.heap.size < x) :
    Below w.heap.size w w2 ∧ w.heap.size + 1 ≤ w2.heap.size ∧ Boxed w.heap.size C w2 := by
  obtain ⟨hb, hs, hx⟩ := h
  obtain ⟨v', p1, p2, p3, p4, p5, p6, p7, p8⟩ := hp
  have key : ∀ x, x ≤ w.heap.size → w2.heap[x]? = w1.heap[x]? := fun x hx => p8 x (by omega) (by omega) (fun e => by have := hl x e; omega)
  refine ⟨⟨p4.trans hb.os, p5.trans hb.tape, p6.trans hb.output, by have := hb.size; omega, fun k hk => (key k (by omega)).trans (hb.block k hk)⟩, by omega, ?_⟩
  unfold Boxed at hx ⊢
  rw [key _ (Nat.le_refl _)]; exact hx
theorem start_world (w W : World) (h : W = (w.alloc (.cells Z5 40)).alloc (.cells Z6 55)) :
    (Below w.heap.size w W ∧ w.heap.size + 1 ≤ W.heap.size ∧ Boxed w.heap.size Z5 W) ∧ StackAt (fun _ => False) (w.heap.size + 1) W (.slice (some ⟨w.heap.size + 1, 0, none⟩) 1 1) ⟨0, false, []⟩ [] := by
  have h0 := alloc_at w (.cells Z5 40)
  have h1 := alloc_at (w.alloc (.cells Z5 40)) (.cells Z6 55)
  have hs : (w.alloc (.cells Z5 40)).heap.size = w.heap.size + 1 := by simp
  rw [hs] at h1
  have hb : Below w.heap.size w ((w.alloc (.cells Z5 40)).alloc (.cells Z6 55)) := ((Below.refl w.heap.size w).alloc (Nat.le_refl _) (.cells Z5 40)).alloc (by simp) (.cells Z6 55)
  refine ⟨⟨h ▸ hb, by rw [h]; simp, ?_⟩, ?_⟩
  · rw [h]
    exact (Lib.alloc_old (w.alloc (.cells Z5 40)) (.cells Z6 55) w.heap.size (by simp)).trans h0
  · rw [h]
    refine ⟨w.heap.size + 1, 1, Z6.toList, rfl, ⟨rfl, .inr ⟨w.heap.size + 1, 1, Z6, rfl, Nat.le_refl _, h1, Nat.le_refl _, by decide, rfl, rfl⟩⟩, fun h => h, fun x h => h.elim, ?_⟩
    exact ⟨.slice none 0 0, 0, ⟨rfl, rfl, rfl, rfl, rfl, rfl⟩, fun h => absurd rfl h, OwnS.nil _ _ _, nofun, trivial⟩
theorem Jr.into {s : ByteArray} {w0 : World} {R : Rs} {n l : Nat} {a : Act} {w : World} (p : Nat) (v : Value) (e : En) (r : List En) (D : Nat → Prop) (pc : Pc) (C : Array Value) (ht : Tm s p w0.heap.size v a) (hl : pc.label = l) (hr : rd s.data.toList n pc p e r = some R)
    (hs : StackAt D (w0.heap.size + 1) w v e r) (hw : Below w0.heap.size w0 w ∧ w0.heap.size + 1 ≤ w.heap.size ∧ Boxed w0.heap.size C w) (hC : C.size = 5) (hd : ∀ d, pc = .put d → Dt.At D w d C) (hp : p ≤ s.size) (hrl : r.length ≤ 60)
    (hds : ∀ x, x ∈ e :: r → x.ds.length + (match pc with | .put _ => 1 | _ => 0) ≤ p) (hbg : pc = .begin → p < s.size) (hfi : pc = .finish → p < s.size) : Jr s w0 R n l a w :=
  ⟨p, v, e, r, D, pc, C, ht, hl, hr, hs, hw.1, hw.2.1, hw.2.2, hC, hd, hp, hrl, hds, hbg, hfi⟩
end Go.Proofs.YtahdiknkcgnieaaDoor
