/- What is known of an old heap: it grows. -/
import Derived.Test.YtjecjlnkpbbanaaK4
namespace Go.Proofs.Ytjecjlnkpbbanaa
open Go Go.RowKit
set_option linter.unusedVariables false
set_option linter.unusedSimpArgs false
def Memo (w : World) (C : Nat → Nat) (c b : Nat) (G : Option Nat) (os : List Ob) (m eb pb : Nat) (pk : List (Option Nat)) : Prop :=
  MemB w C c b G os m eb pb pk ∧ ∃ es, IRw w eb es ∧ es.length = total os ∧ EI os es
theorem Memo.fr {F : Nat → Prop} {w w' : World} {C : Nat → Nat} {c b : Nat} {G : Option Nat} {os : List Ob} {m eb pb : Nat} {pk : List (Option Nat)} (h : Memo w C c b G os m eb pb pk) (hf : Fr F w w') (hF : ∀ k, F k → C k ≠ 1 ∧ C k ≠ 2 ∧ C k ≠ 3 ∧ C k ≠ 4 ∧ C k ≠ 6) : Memo w' C c b G os m eb pb pk := by
  obtain ⟨es, h1, h2⟩ := h.2
  exact ⟨h.1.fr hf (fun k hk => ⟨(hF k hk).1, (hF k hk).2.2.1, (hF k hk).2.2.2.1, (hF k hk).2.2.2.2⟩), es, h1.fr' hf (fun e => (hF _ e).2.1 h.1.ce), h2⟩
theorem Memo.below {w w' : World} {C : Nat → Nat} {c b : Nat} {G : Option Nat} {os : List Ob} {m eb pb : Nat} {pk : List (Option Nat)} (h : Memo w C c b G os m eb pb pk) (hb : Below w.heap.size w w') : Memo w' C c b G os m eb pb pk :=
  h.fr (F := fun _ => False) (Fr.of_below hb) (fun _ e => e.elim)
/-- Other colours, of blocks that are not there yet. -/
theorem MemB.recolor {w : World} {C C' : Nat → Nat} {c b : Nat} {G : Option Nat} {os : List Ob} {m eb pb : Nat} {pk : List (Option Nat)} (h : MemB w C c b G os m eb pb pk) (heb : eb < w.heap.size) (hC : ∀ k, k < w.heap.size → C k ≠ 0 → C' k = C k) (hC2 : ∀ k, w.heap.size ≤ k → C' k = 0) : MemB w C' c b G os m eb pb pk where
  hp := h.hp
  cb := by rw [hC _ h.hp.1.lt (by rw [h.cb]; decide)]; exact h.cb
  cg := fun k hk => by rw [hC _ (h.hp.1.glt k hk).1 (by rw [h.cg k hk]; decide)]; exact h.cg k hk
  cc := by rw [hC _ (World.block_lt_of_cell? w _ h.k0) (by rw [h.cc]; decide)]; exact h.cc
  ce := by rw [hC _ heb (by rw [h.ce]; decide)]; exact h.ce
  cp := by rw [hC _ h.p.lt (by rw [h.cp]; decide)]; exact h.cp
  cq := fun i q hq => by
    obtain ⟨l, h1, _⟩ := h.q i q hq
    rw [hC _ h1.lt (by rw [h.cq i q hq]; decide)]; exact h.cq i q hq
  inj := h.inj
  len := h.len
  p := h.p
  q := h.q
  k0 := h.k0
  k1 := h.k1
  k2 := h.k2
  fresh := hC2
/-- What a call on the way may have turned. -/
structure Mst (C : Nat → Nat) (pk : List (Option Nat)) (w : World) (C' : Nat → Nat) (pk' : List (Option Nat)) (w' : World) : Prop where
  fr : Fr (fun k => C k = 2 ∨ C k = 3 ∨ C k = 4) w w'
  col : ∀ k, k < w.heap.size → C' k = C k
  ext : ∀ (i q : Nat), pk[i]? = some (some q) → pk'[i]? = some (some q)
theorem Mst.refl (C : Nat → Nat) (pk : List (Option Nat)) (w : World) : Mst C pk w C pk w := ⟨Fr.refl _ _, fun _ _ => rfl, fun _ _ h => h⟩
theorem Mst.trans {C C' C9 : Nat → Nat} {pk pk' pk9 : List (Option Nat)} {w w' w9 : World} (h : Mst C pk w C' pk' w') (k : Mst C' pk' w' C9 pk9 w9) : Mst C pk w C9 pk9 w9 :=
  ⟨h.fr.trans k.fr (fun x hx e => by rw [h.col x hx] at e; exact e), fun x hx => by rw [k.col x (Nat.lt_of_lt_of_le hx h.fr.size), h.col x hx], fun i q e => k.ext i q (h.ext i q e)⟩
theorem Mst.below {C C' : Nat → Nat} {pk pk' : List (Option Nat)} {w w' w9 : World} (h : Mst C pk w C' pk' w') (hb : Below w'.heap.size w' w9) : Mst C pk w C' pk' w9 :=
  ⟨h.fr.trans (F' := fun _ => False) (Fr.of_below hb) (fun _ _ e => e.elim), h.col, h.ext⟩
def RetM (x : Int) (C : Nat → Nat) (c b : Nat) (G : Option Nat) (os : List Ob) (m eb pb : Nat) (pk : List (Option Nat)) (w : World) (e : Ending) (w' : World) : Prop :=
  e = .returned (.int .i64 x) ∧ ∃ C' pk', Memo w' C' c b G os m eb pb pk' ∧ Mst C pk w C' pk' w'
theorem RetEnd.memo {x : Int} {C : Nat → Nat} {c b : Nat} {G : Option Nat} {os : List Ob} {m eb pb : Nat} {pk : List (Option Nat)} {w w' : World} {e : Ending} (h : RetEnd x C c b G os m eb pb pk w e w') : e = .returned (.int .i64 x) ∧ Memo w' C c b G os m eb pb pk ∧ Mst C pk w C pk w' :=
  ⟨h.1, ⟨h.2.1, h.2.2.1⟩, ⟨h.2.2.2.os, h.2.2.2.tape, h.2.2.2.output, h.2.2.2.size, fun k hk hn => h.2.2.2.block k hk (fun e => hn (.inl (by rw [e]; exact h.2.1.ce)))⟩, fun _ _ => rfl, fun _ _ h => h⟩
/-- A new row for what one picks. -/
theorem Memo.newpick {w : World} {C : Nat → Nat} {c b : Nat} {G : Option Nat} {os : List Ob} {m eb pb : Nat} {pk : List (Option Nat)} (h : Memo w C c b G os m eb pb pk) {a : Nat} (hn : pk[a]? = some none) {q : Nat} (hq : IRw w q (List.replicate 21 (-1))) (hC : C q = 0) :
    Memo (w.setCell ⟨pb, a, none⟩ (.slice (some ⟨q, 0, none⟩) 21 21)) (fun k => if k = q then 4 else C k) c b G os m eb pb (pk.set a (some q)) := by
  obtain ⟨h1, es, e1, e2⟩ := h
  have hal : a < pk.length := (List.getElem?_eq_some_iff.1 hn).1
  have hf : Fr (fun k => k = pb) w (w.setCell ⟨pb, a, none⟩ (.slice (some ⟨q, 0, none⟩) 21 21)) := Fr.setCell (F := fun k => k = pb) (p := ⟨pb, a, none⟩) (Fr.refl _ _) rfl _
  have hr := h1.recolor (C' := fun k => if k = q then 4 else C k) e1.lt (fun k hk h0 => by
    show (if k = q then 4 else C k) = C k
    rw [if_neg (fun e => h0 (by rw [e]; exact hC))]) (fun k hk => by
    show (if k = q then 4 else C k) = 0
    rw [if_neg (fun e => by have := hq.lt; omega)]; exact h1.fresh k hk)
  have hqp : q ≠ pb := fun e => by rw [e, h1.cp] at hC; cases hC
  have hget : ∀ (i q' : Nat), (pk.set a (some q))[i]? = some (some q') → (i = a ∧ q' = q) ∨ (i ≠ a ∧ pk[i]? = some (some q')) := by
    intro i q' hi
    rw [List.getElem?_set] at hi
    by_cases e : a = i
    · subst e; rw [if_pos rfl, if_pos hal] at hi; injection hi with hi; injection hi with hi; exact .inl ⟨rfl, hi.symm⟩
    · rw [if_neg e] at hi; exact .inr ⟨fun e2 => e e2.symm, hi⟩
  have hqn : ∀ (i : Nat), pk[i]? = some (some q) → False := fun i hi => by have := h1.cq i q hi; omega
  refine ⟨⟨hr.hp.fr hf (fun e => by have := h1.cb; rw [e, h1.cp] at this; cases this) (fun k hk e => by have := h1.cg k hk; rw [e, h1.cp] at this; cases this), hr.cb, hr.cg, hr.cc, hr.ce, hr.cp, ?_, ?_, by rw [List.length_set]; exact h1.len, h1.p.put a (some q), ?_, cell_fr h1.k0 hf (fun e => by have := h1.cc; rw [e, h1.cp] at this; cases this), cell_fr h1.k1 hf (fun e => by have := h1.cc; rw [e, h1.cp] at this; cases this), cell_fr h1.k2 hf (fun e => by have := h1.cc; rw [e, h1.cp] at this; cases this), fun k hk => hr.fresh k (by simpa [World.setCell] using hk)⟩, es, e1.fr' hf (fun e => by have := h1.ce; rw [e, h1.cp] at this; cases this), e2⟩
  · intro i q' hi
    rcases hget i q' hi with ⟨_, rfl⟩ | ⟨_, h9⟩
    · show (if q' = q' then 4 else C q') = 4; rw [if_pos rfl]
    · exact hr.cq i q' h9
  · intro i j q' hi hj
    rcases hget i q' hi with ⟨rfl, rfl⟩ | ⟨_, h9⟩
    · rcases hget j q' hj with ⟨rfl, _⟩ | ⟨_, h9⟩
      · rfl
      · exact (hqn j h9).elim
    · rcases hget j q' hj with ⟨rfl, rfl⟩ | ⟨_, h8⟩
      · exact (hqn i h9).elim
      · exact h1.inj i j q' h9 h8
  · intro i q' hi
    rcases hget i q' hi with ⟨rfl, rfl⟩ | ⟨_, h9⟩
    · refine ⟨_, hq.fr' hf hqp, by simp, fun d v hv => .inl ?_⟩
      rw [List.getElem?_replicate] at hv
      split at hv
      · injection hv with hv; exact hv.symm
      · cases hv
    · obtain ⟨l, k1, k2⟩ := h1.q i q' h9
      exact ⟨l, k1.fr' hf (fun e => by have := h1.cq i q' h9; rw [e, h1.cp] at this; cases this), k2⟩
/-- One more is known. -/
theorem Memo.setpick {w : World} {C : Nat → Nat} {c b : Nat} {G : Option Nat} {os : List Ob} {m eb pb : Nat} {pk : List (Option Nat)} (h : Memo w C c b G os m eb pb pk) {a q : Nat} (hn : pk[a]? = some (some q)) (d : Nat) {x : Int} (hx : x = shortO os d a) :
    Memo (w.setCell ⟨q, d, none⟩ (.int .i64 x)) C c b G os m eb pb pk := by
  obtain ⟨h1, es, e1, e2⟩ := h
  have h4 := h1.cq a q hn
  have hf : Fr (fun k => k = q) w (w.setCell ⟨q, d, none⟩ (.int .i64 x)) := Fr.setCell (F := fun k => k = q) (p := ⟨q, d, none⟩) (Fr.refl _ _) rfl _
  refine ⟨⟨h1.hp.fr hf (fun e => by have := h1.cb; rw [e, h4] at this; cases this) (fun k hk e => by have := h1.cg k hk; rw [e, h4] at this; cases this), h1.cb, h1.cg, h1.cc, h1.ce, h1.cp, h1.cq, h1.inj, h1.len, (hf.block _ h1.p.lt (fun e => by have := h1.cp; rw [e, h4] at this; cases this)).trans h1.p, ?_, cell_fr h1.k0 hf (fun e => by have := h1.cc; rw [e, h4] at this; cases this), cell_fr h1.k1 hf (fun e => by have := h1.cc; rw [e, h4] at this; cases this), cell_fr h1.k2 hf (fun e => by have := h1.cc; rw [e, h4] at this; cases this), fun k hk => h1.fresh k (by simpa [World.setCell] using hk)⟩, es, e1.fr' hf (fun e => by have := h1.ce; rw [e, h4] at this; cases this), e2⟩
  intro i q' hi
  obtain ⟨l, k1, k2, k3⟩ := h1.q i q' hi
  by_cases e : q' = q
  · subst e
    obtain rfl := h1.inj i a q' hi hn
    refine ⟨l.set d x, k1.put d x, by rw [List.length_set]; exact k2, fun d' v hv => ?_⟩
    rw [List.getElem?_set] at hv
    by_cases e2 : d = d'
    · subst e2
      rw [if_pos rfl] at hv
      split at hv
      · injection hv with hv; exact .inr (by rw [← hv, hx])
      · cases hv
    · rw [if_neg e2] at hv; exact k3 d' v hv
  · exact ⟨l, k1.fr' hf (fun e2 => e e2), k2, k3⟩
theorem Mst.put {C C' : Nat → Nat} {pk pk' : List (Option Nat)} {w w' : World} (h : Mst C pk w C' pk' w') {p : Addr} (hp : C' p.block = 2 ∨ C' p.block = 3 ∨ C' p.block = 4) (u : Value) : Mst C pk w C' pk' (w'.setCell p u) :=
  h.trans ⟨Fr.setCell (Fr.refl _ _) hp _, fun _ _ => rfl, fun _ _ h => h⟩
theorem Mst.newpick {C : Nat → Nat} {pk : List (Option Nat)} {w : World} {a q : Nat} (hn : pk[a]? = some none) (hq : w.heap.size ≤ q) : Mst C pk w (fun k => if k = q then 4 else C k) (pk.set a (some q)) w :=
  ⟨Fr.refl _ _, fun k hk => by show (if k = q then 4 else C k) = C k; rw [if_neg (by omega)], fun i q' hi => by
    rw [List.getElem?_set, if_neg (fun e => by rw [e, hi] at hn; cases hn)]; exact hi⟩
end Go.Proofs.Ytjecjlnkpbbanaa
