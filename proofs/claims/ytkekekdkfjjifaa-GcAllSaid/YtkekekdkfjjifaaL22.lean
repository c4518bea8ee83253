/- The laws' own heaps: one more object. -/
import Derived.Test.YtkekekdkfjjifaaZO
import Derived.Test.YtkekekdkfjjifaaG4
namespace Go.Proofs.Ytkekekdkfjjifaa
open Go Go.RowKit
set_option linter.unusedVariables false
set_option linter.unusedSimpArgs false
theorem HL.alloc {B w : World} {b : Nat} {G : Option Nat} {os : List Ob} {m : Nat} (h : HL B w b G os m) (t : Nat) (ps ns : List Int) (pv nv : Value) (hp : IsS w pv ps) (hn : IsS w nv ns) (ap : Apart pv b G) (an : Apart nv b G)
    (hv : ∀ p ∈ ps, bey os p = false ∧ I64 p) (hf : fitF t ps ns = true) (hr : total os + sizeF ps ns ≤ m) :
    Calls Try.prog 28 #[.pointer (some ⟨b, 0, none⟩), .int .i64 t, pv, nv] w fun e w' => e = .returned (.tuple #[.int .i64 (total os : Nat), .bool true]) ∧ ∃ G', HL B w' b G' (os ++ [newO t ps ns]) m ∧ Fr (own b G) w w' := by
  refine (alloc_yes h.hp t ps ns pv nv hp hn ap an (fun p hp => (hv p hp).2) hf ?_ hr).mono ?_
  · rw [List.any_eq_false]; intro p hp; rw [(hv p hp).1]; decide
  · rintro e w' hr
    obtain ⟨he, G', h'⟩ := h.turn hr
    obtain ⟨_, G2, hh, hf2, hg2⟩ := hr
    refine ⟨he, G2, ⟨hh, h'.bel, h.hb, fun k hk => ?_⟩, hf2⟩
    rcases hg2 k hk with e | e
    · exact h.hg k e
    · have := h.bel.size; omega
theorem vd_ok {os : List Ob} {a : Int} {m : Nat} (h : Vd os a) (hm : total os ≤ m) (hm2 : m ≤ 1000000) : bey os a = false ∧ I64 a := ⟨bey_vd h, by have := vd_lt h; unfold I64; omega⟩
theorem HL.drops {B w : World} {b : Nat} {G : Option Nat} {os : List Ob} {m : Nat} (h : HL B w b G os m) (o : Obj) : HL B (w.alloc o) b G os m := h.below ((Below.refl _ _).alloc (Nat.le_refl _) o)
theorem HL.apart2 {B w : World} {b : Nat} {G : Option Nat} {os : List Ob} {m : Nat} (h : HL B w b G os m) {g n c : Nat} (hg : w.heap.size ≤ g) : Apart (.slice (some ⟨g, 0, none⟩) n c) b G :=
  apart_lt rfl (by have := h.hp.1.lt; omega) (fun e => by have := (h.hp.1.glt _ e).1; omega)
end Go.Proofs.Ytkekekdkfjjifaa
