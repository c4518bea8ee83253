/- Data are written, and read again. -/
import Derived.Test.YtkjcbaikebdmmaaDoorJ13
namespace Go.Proofs.YtkjcbaikebdmmaaDoor
open Go.RowKit Go.BigM
set_option linter.unusedVariables false
set_option linter.unusedSimpArgs false
mutual
/-- The datum whose text begins at a place. -/
def Dt.plc (p : Nat) : Dt → Dt
  | .mk k t ms l _ => .mk k t ms (Dt.plcs (p + 1) l) p
def Dt.plcs (p : Nat) : List Dt → List Dt
  | [] => []
  | d :: l => d.plc p :: Dt.plcs (p + d.txt.length + 1) l
end
/-- Texts, a blank behind each. -/
def Dt.txte : List Dt → List UInt8
  | [] => []
  | d :: l => d.txt ++ (32 :: Dt.txte l)
theorem Wrs.gap {p : Nat} {l : List Dt} {g b : List UInt8} (hg : Gap g) (h : Wrs (p + g.length) l b) : Wrs p l (g ++ b) := by
  cases h with
  | nil h2 => exact .nil (hg.append h2)
  | @cons _ d l g' t b h2 h3 h4 h5 =>
    have e : g ++ (g' ++ (t ++ b)) = (g ++ g') ++ (t ++ b) := by simp
    rw [e]
    refine .cons (hg.append h2) ?_ ?_ h5
    · rw [List.length_append, ← Nat.add_assoc]; exact h3
    · rw [List.length_append, ← Nat.add_assoc]; exact h4
theorem Wrs.append : ∀ {l : List Dt} {p : Nat} {m : List Dt} {a b : List UInt8}, Wrs p l a → Wrs (p + a.length) m b → NoSign b → Wrs p (l ++ m) (a ++ b)
  | _, p, m, _, b, .nil h, hb, hn => Wrs.gap h hb
  | _, p, m, _, b, .cons (l := l) (g := g) (t := t) (b := b') h2 h3 h4 h5, hb, hn => by
    have e : (g ++ (t ++ b')) ++ b = g ++ (t ++ (b' ++ b)) := by simp
    rw [e]
    refine .cons h2 h3 (Wrs.append h4 ?_ hn) (h5.append hn)
    have e2 : p + g.length + t.length + b'.length = p + (g ++ (t ++ b')).length := by simp; omega
    rw [e2]; exact hb
theorem txtr_nosign (l : List Dt) : NoSign (Dt.txtr l) := by
  cases l with
  | nil => exact NoSign.nil
  | cons d l => exact NoSign.cons (by decide)
mutual
theorem wr_plc : ∀ (d : Dt) (p : Nat), Rdb d → Wr p (d.plc p) d.txt
  | .mk k t ms l q, p, h => by
    cases h with
    | leaf hk hu hl => simp only [Dt.plc, Dt.plcs, Dt.txt, hk, if_false]; exact .leaf hl
    | list hl => simp only [Dt.plc, Dt.txt, if_true]; exact .list (wrs_plcs l (p + 1) hl)
theorem wrs_plcs : ∀ (l : List Dt) (p : Nat), (∀ d ∈ l, Rdb d) → Wrs p (Dt.plcs p l) (Dt.txts l)
  | [], p, _ => .nil Gap.nil
  | d :: l, p, h => by
    have h1 := wr_plc d p (h d (by simp))
    have h2 := wrs_plcr l (p + d.txt.length) (fun e he => h e (by simp [he]))
    exact Wrs.cons (g := []) Gap.nil h1 h2 (txtr_nosign l)
theorem wrs_plcr : ∀ (l : List Dt) (p : Nat), (∀ d ∈ l, Rdb d) → Wrs p (Dt.plcs (p + 1) l) (Dt.txtr l)
  | [], p, _ => .nil Gap.nil
  | d :: l, p, h => by
    have h1 := wr_plc d (p + 1) (h d (by simp))
    have h2 := wrs_plcr l (p + 1 + d.txt.length) (fun e he => h e (by simp [he]))
    exact Wrs.cons (g := [32]) (Gap.blank (by simp)) h1 h2 (txtr_nosign l)
end
theorem wrs_plce : ∀ (l : List Dt) (p : Nat), (∀ d ∈ l, Rdb d) → Wrs p (Dt.plcs p l) (Dt.txte l)
  | [], p, _ => .nil Gap.nil
  | d :: l, p, h => by
    have h1 := wr_plc d p (h d (by simp))
    have h2 := wrs_plce l (p + d.txt.length + 1) (fun e he => h e (by simp [he]))
    exact Wrs.cons (g := []) Gap.nil h1 (Wrs.gap (g := [32]) (Gap.blank (by simp)) h2) (NoSign.cons (by decide))
/-- The same, with other blanks: the one that stands as number n is rep n. -/
def rep (f : Nat → List UInt8) : Nat → List UInt8 → List UInt8
  | _, [] => []
  | n, c :: l => if c = 32 then f n ++ rep f (n + 1) l else c :: rep f n l
theorem rep_append (f : Nat → List UInt8) : ∀ (a b : List UInt8) (n : Nat), rep f n (a ++ b) = rep f n a ++ rep f (n + a.count 32) b
  | [], b, n => by simp [rep]
  | c :: a, b, n => by
    by_cases h : c = 32
    · subst h
      simp only [List.cons_append, rep, if_true]
      rw [rep_append f a b (n + 1)]
      simp [List.count_cons]
      rw [show n + 1 + List.count 32 a = n + (List.count 32 a + 1) by omega]
    · have h' : (c == 32) = false := by simpa using h
      simp only [List.cons_append, rep, h, if_false]
      rw [rep_append f a b n]
      simp [List.count_cons, h]
theorem rep_none (f : Nat → List UInt8) : ∀ (a : List UInt8) (n : Nat), (∀ c ∈ a, c ≠ 32) → rep f n a = a
  | [], n, _ => rfl
  | c :: a, n, h => by
    simp only [rep, h c (by simp), if_false]
    rw [rep_none f a n (fun c hc => h c (by simp [hc]))]
theorem rep_one (f : Nat → List UInt8) (n : Nat) : rep f n [32] = f n := by simp [rep]
mutual
/-- The same but for places. -/
def Dt.sim : Dt → Dt → Prop
  | .mk k t ms l _, .mk k' t' ms' l' _ => k = k' ∧ t = t' ∧ ms = ms' ∧ Dt.sims l l'
def Dt.sims : List Dt → List Dt → Prop
  | [], [] => True
  | d :: l, e :: m => d.sim e ∧ Dt.sims l m
  | [], _ :: _ => False
  | _ :: _, [] => False
end
mutual
theorem Dt.sim.same : ∀ (d e : Dt), d.sim e → d.same e = true
  | .mk k t ms l _, .mk k' t' ms' l' _, h => by
    obtain ⟨rfl, rfl, rfl, h4⟩ := h
    simp [Dt.same, Dt.sims.same l l' h4]
theorem Dt.sims.same : ∀ (l m : List Dt), Dt.sims l m → Dt.sames l m = true
  | [], [], _ => by simp [Dt.sames]
  | d :: l, e :: m, h => by simp [Dt.sames, Dt.sim.same d e h.1, Dt.sims.same l m h.2]
  | [], _ :: _, h => h.elim
  | _ :: _, [], h => h.elim
end
mutual
theorem Dt.sim.plc : ∀ (d : Dt) (p : Nat), d.sim (d.plc p)
  | .mk k t ms l _, p => ⟨rfl, rfl, rfl, Dt.sims.plcs l (p + 1)⟩
theorem Dt.sims.plcs : ∀ (l : List Dt) (p : Nat), Dt.sims l (Dt.plcs p l)
  | [], p => trivial
  | d :: l, p => ⟨Dt.sim.plc d p, Dt.sims.plcs l _⟩
end
mutual
theorem Dt.sim.symm : ∀ (d e : Dt), d.sim e → e.sim d
  | .mk k t ms l _, .mk k' t' ms' l' _, h => by
    obtain ⟨rfl, rfl, rfl, h4⟩ := h
    exact ⟨rfl, rfl, rfl, Dt.sims.symm l l' h4⟩
theorem Dt.sims.symm : ∀ (l m : List Dt), Dt.sims l m → Dt.sims m l
  | [], [], _ => trivial
  | d :: l, e :: m, h => ⟨Dt.sim.symm d e h.1, Dt.sims.symm l m h.2⟩
  | [], _ :: _, h => h.elim
  | _ :: _, [], h => h.elim
end
mutual
theorem Dt.sim.trans : ∀ (a b c : Dt), a.sim b → b.sim c → a.sim c
  | .mk k t ms l _, .mk k' t' ms' l' _, .mk _ _ _ l'' _, h, i => by
    obtain ⟨rfl, rfl, rfl, h4⟩ := h
    obtain ⟨rfl, rfl, rfl, i4⟩ := i
    exact ⟨rfl, rfl, rfl, Dt.sims.trans l l' l'' h4 i4⟩
theorem Dt.sims.trans : ∀ (a b c : List Dt), Dt.sims a b → Dt.sims b c → Dt.sims a c
  | [], [], [], _, _ => trivial
  | a :: l, b :: m, c :: n, h, i => ⟨Dt.sim.trans a b c h.1 i.1, Dt.sims.trans l m n h.2 i.2⟩
  | [], [], _ :: _, _, i => i.elim
  | [], _ :: _, _, h, _ => h.elim
  | _ :: _, [], _, h, _ => h.elim
  | _ :: _, _ :: _, [], _, i => i.elim
end
theorem Dt.sims.length : ∀ {l m : List Dt}, Dt.sims l m → l.length = m.length
  | [], [], _ => rfl
  | d :: l, e :: m, h => by simp [Dt.sims.length h.2]
  | [], _ :: _, h => h.elim
  | _ :: _, [], h => h.elim
theorem Dt.sims.get : ∀ {l m : List Dt}, Dt.sims l m → ∀ (j : Nat) (h1 : j < l.length) (h2 : j < m.length), l[j].sim m[j]
  | d :: l, e :: m, h, 0, _, _ => h.1
  | d :: l, e :: m, h, j + 1, h1, h2 => Dt.sims.get h.2 j (by simpa using h1) (by simpa using h2)
  | [], _, _, j, h1, _ => by simp at h1
  | _ :: _, [], h, _, _, _ => h.elim
mutual
theorem Dt.sim.dep : ∀ (d e : Dt), d.sim e → d.dep = e.dep
  | .mk k t ms l _, .mk k' t' ms' l' _, h => by
    obtain ⟨rfl, rfl, rfl, h4⟩ := h
    simp [Dt.dep, Dt.sims.dep l l' h4]
theorem Dt.sims.dep : ∀ (l m : List Dt), Dt.sims l m → Dt.deps l = Dt.deps m
  | [], [], _ => rfl
  | d :: l, e :: m, h => by simp [Dt.deps, Dt.sim.dep d e h.1, Dt.sims.dep l m h.2]
  | [], _ :: _, h => h.elim
  | _ :: _, [], h => h.elim
end
/-- Blanks as they may stand in the place of one. -/
def Seps (f : Nat → List UInt8) : Prop := ∀ n, Gap (f n) ∧ NoSign (f n) ∧ f n ≠ []
theorem nosign_sep {f : Nat → List UInt8} (hf : Seps f) (n : Nat) (b : List UInt8) : NoSign (f n ++ b) := by
  obtain ⟨_, h2, h3⟩ := hf n
  cases h : f n with
  | nil => exact absurd h h3
  | cons c l => rw [h] at h2; exact fun d hd => h2 d (by simpa using hd)
mutual
theorem wr_rep {f : Nat → List UInt8} (hf : Seps f) : ∀ (d : Dt) (n p : Nat), Rdb d → ∃ e, Wr p e (rep f n d.txt) ∧ d.sim e
  | .mk k t ms l q, n, p, h => by
    cases h with
    | leaf hk hu hl =>
      simp only [Dt.txt, hk, if_false]
      rw [rep_none f _ _ hu]
      exact ⟨_, .leaf hl, rfl, rfl, rfl, trivial⟩
    | list hl =>
      simp only [Dt.txt, if_true]
      obtain ⟨m, h1, h2⟩ := wrs_rep hf l n (p + 1) hl
      have e1 : rep f n (40 :: (Dt.txts l ++ [41])) = 40 :: (rep f n (Dt.txts l) ++ [41]) := by
        simp only [rep, show ¬ ((40 : UInt8) = 32) by decide, if_false]
        rw [rep_append]
        congr 1
      rw [e1]
      exact ⟨_, .list h1, rfl, rfl, rfl, h2⟩
theorem wrs_rep {f : Nat → List UInt8} (hf : Seps f) : ∀ (l : List Dt) (n p : Nat), (∀ d ∈ l, Rdb d) → ∃ m, Wrs p m (rep f n (Dt.txts l)) ∧ Dt.sims l m
  | [], n, p, _ => ⟨[], .nil Gap.nil, trivial⟩
  | d :: l, n, p, h => by
    obtain ⟨e, h1, h2⟩ := wr_rep hf d n p (h d (by simp))
    obtain ⟨m, h3, h4⟩ := wrs_repr hf l (n + d.txt.count 32) (p + (rep f n d.txt).length) (fun e he => h e (by simp [he]))
    refine ⟨e :: m, ?_, h2, h4⟩
    show Wrs p _ (rep f n (d.txt ++ Dt.txtr l))
    rw [rep_append]
    refine Wrs.cons (g := []) Gap.nil h1 h3 ?_
    cases l with
    | nil => exact NoSign.nil
    | cons d' l' =>
      show NoSign (rep f _ (32 :: (d'.txt ++ Dt.txtr l')))
      simp only [rep, if_true]
      exact nosign_sep hf _ _
theorem wrs_repr {f : Nat → List UInt8} (hf : Seps f) : ∀ (l : List Dt) (n p : Nat), (∀ d ∈ l, Rdb d) → ∃ m, Wrs p m (rep f n (Dt.txtr l)) ∧ Dt.sims l m
  | [], n, p, _ => ⟨[], .nil Gap.nil, trivial⟩
  | d :: l, n, p, h => by
    obtain ⟨e, h1, h2⟩ := wr_rep hf d (n + 1) (p + (f n).length) (h d (by simp))
    obtain ⟨m, h3, h4⟩ := wrs_repr hf l (n + 1 + d.txt.count 32) (p + (f n).length + (rep f (n + 1) d.txt).length) (fun e he => h e (by simp [he]))
    refine ⟨e :: m, ?_, h2, h4⟩
    show Wrs p _ (rep f n (32 :: (d.txt ++ Dt.txtr l)))
    simp only [rep, if_true]
    rw [rep_append]
    refine Wrs.cons (hf n).1 h1 h3 ?_
    cases l with
    | nil => exact NoSign.nil
    | cons d' l' =>
      show NoSign (rep f _ (32 :: (d'.txt ++ Dt.txtr l')))
      simp only [rep, if_true]
      exact nosign_sep hf _ _
end
end Go.Proofs.YtkjcbaikebdmmaaDoor
