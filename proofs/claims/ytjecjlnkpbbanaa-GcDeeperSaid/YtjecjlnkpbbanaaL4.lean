/- Rows, heaps, where only some blocks turn. -/
import Derived.Test.YtjecjlnkpbbanaaL2m
namespace Go.Proofs.Ytjecjlnkpbbanaa
open Go Go.RowKit
set_option linter.unusedVariables false
set_option linter.unusedSimpArgs false
theorem own_fr {F : Nat → Prop} {w w' : World} {B : Nat} {e : TypeId} {s : Nat} {v : Value} {n : Nat} {xs : List Value} (h : w.ownsRow B e s v n xs) (hf : Fr F w w') (hn : ∀ k, v.ownBlock = some k → ¬ F k) : w'.ownsRow B e s v n xs := by
  refine ⟨h.1, ?_⟩
  rcases h.2 with h | ⟨g, cap, cur, e1, hb, hh, r⟩
  · exact .inl h
  · exact .inr ⟨g, cap, cur, e1, hb, (hf.block g (Array.getElem?_eq_some_iff.1 hh).1 (hn g (by rw [e1]; rfl))).trans hh, r⟩
theorem own_below {w w' : World} {B : Nat} {e : TypeId} {s : Nat} {v : Value} {n : Nat} {xs : List Value} (h : w.ownsRow B e s v n xs) (hb : Below w.heap.size w w') : w'.ownsRow B e s v n xs :=
  own_fr (F := fun _ => False) h (Fr.of_below hb) (fun _ _ h => h)
theorem HL.fr {F : Nat → Prop} {B w w' : World} {b : Nat} {G : Option Nat} {os : List Ob} {m : Nat} (h : HL B w b G os m) (hf : Fr F w w') (h1 : ¬ F b) (h2 : ∀ k, G = some k → ¬ F k) (h3 : ∀ k, k < B.heap.size → ¬ F k) : HL B w' b G os m :=
  ⟨⟨h.hp.1.keep (hf.block _ h.hp.1.lt h1) (fun k hk => hf.block _ (h.hp.1.glt k hk).1 (h2 k hk)), h.hp.2⟩, h.bel.trans (hf.below h3 h.bel.size), h.hb, h.hg⟩
theorem own_at {w : World} {B : Nat} {v : Value} {n : Nat} {xs : List Int} (h : w.ownsRow B 3 1 v n (xs.map (Value.int .i64))) (h0 : 0 < n) : ∃ g c, v = .slice (some ⟨g, 0, none⟩) n c ∧ B ≤ g ∧ g < w.heap.size ∧ (∀ j, w.frozen? ⟨g, j, none⟩ = false) ∧ ∀ j (hj : j < xs.length), w.cell? ⟨g, j, none⟩ = some (.int .i64 xs[j]) := by
  have hs := own_isS h
  rcases h.2 with ⟨_, h1⟩ | ⟨g, cap, cur, rfl, hB, hh, _⟩
  · omega
  · refine ⟨g, cap, rfl, hB, (Array.getElem?_eq_some_iff.1 hh).1, fun j => frozen_of_row w g j _ _ hh, fun i hi => ?_⟩
    obtain ⟨ao, c, e, _, hr⟩ := hs
    injection e with e1 e2 e3
    rcases hr with ⟨h2, _⟩ | ⟨g', o, h2, h3⟩
    · rw [h2] at e1; cases e1
    · rw [h2] at e1
      injection e1 with e1
      injection e1 with e4 e5
      subst e4 e5
      have := h3 i hi
      rw [Nat.zero_add] at this
      exact this
end Go.Proofs.Ytjecjlnkpbbanaa
