/- A heap, and rows beside it. -/
import Derived.Test.YtjecjlnkpbbanaaL24
namespace Go.Proofs.Ytjecjlnkpbbanaa
open Go Go.RowKit
set_option linter.unusedVariables false
set_option linter.unusedSimpArgs false
def Bes (v : Value) (b : Nat) (G : Option Nat) : Prop := ∀ k, v.ownBlock = some k → k ≠ b ∧ G ≠ some k
theorem HL.alloc2 {B w : World} {b : Nat} {G : Option Nat} {os : List Ob} {m : Nat} (h : HL B w b G os m) (t : Nat) (ps ns : List Int) (pv nv : Value) (hp : IsS w pv ps) (hn : IsS w nv ns) (ap : Apart pv b G) (an : Apart nv b G)
    (hv : ∀ p ∈ ps, bey os p = false ∧ I64 p) (hf : fitF t ps ns = true) (hr : total os + sizeF ps ns ≤ m) {lv : Value} {n : Nat} {xs : List Value} (hlv : w.ownsRow B.heap.size 3 1 lv n xs) (hbe : Bes lv b G) :
    Calls Try.prog 28 #[.pointer (some ⟨b, 0, none⟩), .int .i64 t, pv, nv] w fun e w' => e = .returned (.tuple #[.int .i64 (total os : Nat), .bool true]) ∧ ∃ G', HL B w' b G' (os ++ [newO t ps ns]) m ∧ w'.ownsRow B.heap.size 3 1 lv n xs ∧ Bes lv b G' := by
  refine (alloc_yes h.hp t ps ns pv nv hp hn ap an (fun p hp => (hv p hp).2) hf ?_ hr).mono ?_
  · rw [List.any_eq_false]; intro p hp; rw [(hv p hp).1]; decide
  · rintro e w' hr
    obtain ⟨he, G', h'⟩ := h.turn hr
    obtain ⟨_, G2, hh, hf2, hg2⟩ := hr
    refine ⟨he, G2, ⟨hh, h'.bel, h.hb, fun k hk => ?_⟩, own_fr hlv hf2 (fun k hk e => ?_), fun k hk => ⟨(hbe k hk).1, fun e => ?_⟩⟩
    · rcases hg2 k hk with e | e
      · exact h.hg k e
      · have := h.bel.size; omega
    · rcases e with e | e
      · exact (hbe k hk).1 e
      · exact (hbe k hk).2 e
    · rcases hg2 k e with e1 | e1
      · exact (hbe k hk).2 e1
      · have := (hlv.lt k hk).2; omega
/-- The row beside the heap goes on. -/
theorem HL.grow {B w W w9 : World} {b : Nat} {G : Option Nat} {os : List Ob} {m : Nat} {v v' : Value} {n : Nat} {xs : List Value} (h : HL B w b G os m) (hb : Below w.heap.size w W) (ho : w.ownsRow B.heap.size 3 1 v n xs) (hbe : Bes v b G)
    (hg : W.grownBy w9 v.ownBlock) (hv : ∀ k, v'.ownBlock = some k → v.ownBlock = some k ∨ W.heap.size ≤ k) : HL B w9 b G os m ∧ Bes v' b G := by
  have h2 := h.below hb
  have hs := hb.size
  refine ⟨h2.fr (Fr.grown hg) (fun e => (hbe b e).1 rfl) (fun k hk e => (hbe k e).2 hk) (fun k hk e => by have := (ho.lt k e).1; omega), fun k hk => ?_⟩
  rcases hv k hk with e | e
  · exact hbe k e
  · have h3 := h.hp.1.lt
    exact ⟨by omega, fun e2 => by have := (h.hp.1.glt k e2).1; omega⟩
structure Tr (w2 : World) (rv wv fv : Value) (R W F : List Int) (wr : World) : Prop where
  o1 : wr.ownsRow w2.heap.size 3 1 rv R.length (R.map (Value.int .i64))
  o2 : wr.ownsRow w2.heap.size 3 1 wv W.length (W.map (Value.int .i64))
  o3 : wr.ownsRow w2.heap.size 3 1 fv F.length (F.map (Value.int .i64))
  a12 : Apt rv wv
  a13 : Apt rv fv
  a23 : Apt wv fv
  bel : Below w2.heap.size w2 wr
theorem Tr.below {w2 wr w' : World} {rv wv fv : Value} {R W F : List Int} (h : Tr w2 rv wv fv R W F wr) (hb : Below wr.heap.size wr w') : Tr w2 rv wv fv R W F w' :=
  ⟨own_below h.o1 hb, own_below h.o2 hb, own_below h.o3 hb, h.a12, h.a13, h.a23, h.bel.trans (hb.mono h.bel.size)⟩
theorem Tr.app1 {w2 wr w' : World} {rv wv fv v : Value} {R W F : List Int} {x : Int} {n : Nat} (h : Tr w2 rv wv fv R W F wr) (hn : n = R.length + 1)
    (o : w'.ownsRow w2.heap.size 3 1 v n (R.map (Value.int .i64) ++ [.int .i64 x])) (g : (wr.alloc (.cells #[.int .i64 x] 3)).grownBy w' rv.ownBlock) (k : ∀ y, v.ownBlock = some y → rv.ownBlock = some y ∨ (wr.alloc (.cells #[.int .i64 x] 3)).heap.size ≤ y) : Tr w2 v wv fv (R ++ [x]) W F w' := by
  have h2 := h.below ((Below.refl _ _).alloc (Nat.le_refl _) (.cells #[.int .i64 x] 3))
  refine ⟨by rw [List.length_append, List.map_append, List.length_singleton, ← hn]; exact o, own_grown h2.o2 g h.a12, own_grown h2.o3 g h.a13, h.a12.app h2.o2 k, h.a13.app h2.o3 k, h.a23, h2.bel.trans ((Fr.grown g).below (fun z hz e => by have := (h.o1.lt z e).1; omega) h2.bel.size)⟩
theorem Tr.swap12 {w2 wr : World} {rv wv fv : Value} {R W F : List Int} (h : Tr w2 rv wv fv R W F wr) : Tr w2 wv rv fv W R F wr := ⟨h.o2, h.o1, h.o3, h.a12.symm, h.a23, h.a13, h.bel⟩
theorem Tr.swap13 {w2 wr : World} {rv wv fv : Value} {R W F : List Int} (h : Tr w2 rv wv fv R W F wr) : Tr w2 fv wv rv F W R wr := ⟨h.o3, h.o2, h.o1, h.a23.symm, h.a13.symm, h.a12.symm, h.bel⟩
end Go.Proofs.Ytjecjlnkpbbanaa
