/- Two rows and marks, side by side. -/
import Derived.Test.YtjecjlnkpbbanaaL23
import Derived.Test.YtjecjlnkpbbanaaZM
namespace Go.Proofs.Ytjecjlnkpbbanaa
open Go Go.RowKit
set_option linter.unusedVariables false
set_option linter.unusedSimpArgs false
structure Qs (w3 : World) (gs : Nat) (qv qv2 : Value) (n : Nat) (Q Q2 : List Int) (l : List Bool) (wr : World) : Prop where
  o1 : wr.ownsRow w3.heap.size 3 1 qv n (Q.map (Value.int .i64))
  o2 : wr.ownsRow w3.heap.size 3 1 qv2 n (Q2.map (Value.int .i64))
  ap : Apt qv qv2
  br : BRw wr gs l
  n1 : qv.ownBlock ≠ some gs
  n2 : qv2.ownBlock ≠ some gs
  gB : w3.heap.size ≤ gs
  bel : Below w3.heap.size w3 wr
theorem Qs.below {w3 wr w' : World} {gs : Nat} {qv qv2 : Value} {n : Nat} {Q Q2 : List Int} {l : List Bool} (h : Qs w3 gs qv qv2 n Q Q2 l wr) (hb : Below wr.heap.size wr w') : Qs w3 gs qv qv2 n Q Q2 l w' :=
  ⟨own_below h.o1 hb, own_below h.o2 hb, h.ap, h.br.fr' (F := fun _ => False) (Fr.of_below hb) (fun e => e), h.n1, h.n2, h.gB, h.bel.trans (hb.mono h.bel.size)⟩
theorem Qs.seen {w3 wr : World} {gs : Nat} {qv qv2 : Value} {n : Nat} {Q Q2 : List Int} {l : List Bool} (h : Qs w3 gs qv qv2 n Q Q2 l wr) (j : Nat) : Qs w3 gs qv qv2 n Q Q2 (l.set j true) (wr.setCell ⟨gs, j, none⟩ (.bool true)) := by
  have hf : Fr (fun x => x = gs) wr (wr.setCell ⟨gs, j, none⟩ (.bool true)) := Fr.setCell (F := fun x => x = gs) (p := ⟨gs, j, none⟩) (Fr.refl _ _) rfl _
  exact ⟨own_fr h.o1 hf (fun k hk e => h.n1 (by rw [← e]; exact hk)), own_fr h.o2 hf (fun k hk e => h.n2 (by rw [← e]; exact hk)), h.ap, h.br.put j true, h.n1, h.n2, h.gB, h.bel.setCell (p := ⟨gs, j, none⟩) h.gB _⟩
/-- Both rows go on. -/
theorem Qs.app {w3 wr w8 w9 : World} {gs : Nat} {qv qv2 v8 v9 : Value} {n p : Nat} {Q Q2 P P2 : List Int} {l : List Bool} (h : Qs w3 gs qv qv2 n Q Q2 l wr)
    (o8 : w8.ownsRow w3.heap.size 3 1 v8 (n + p) (Q.map (Value.int .i64) ++ P.map (Value.int .i64))) (g8 : wr.grownBy w8 qv.ownBlock) (k8 : ∀ k, v8.ownBlock = some k → qv.ownBlock = some k ∨ wr.heap.size ≤ k)
    (o9 : w9.ownsRow w3.heap.size 3 1 v9 (n + p) (Q2.map (Value.int .i64) ++ P2.map (Value.int .i64))) (g9 : w8.grownBy w9 qv2.ownBlock) (k9 : ∀ k, v9.ownBlock = some k → qv2.ownBlock = some k ∨ w8.heap.size ≤ k) :
    Qs w3 gs v8 v9 (n + p) (Q ++ P) (Q2 ++ P2) l w9 := by
  have f8 := Fr.grown g8
  have f9 := Fr.grown g9
  have hl1 := fun k hk => (h.o1.lt k hk)
  have hl2 := fun k hk => (h.o2.lt k hk)
  have hgl := h.br.lt
  have a8 : Apt v8 qv2 := h.ap.app h.o2 k8
  have a9 : Apt v8 v9 := (a8.symm.app o8 k9).symm
  refine ⟨by rw [List.map_append]; exact own_grown o8 g9 a8.symm, by rw [List.map_append]; exact o9, a9, (h.br.fr' f8 (fun e => h.n1 e)).fr' f9 (fun e => h.n2 e), fun e => ?_, fun e => ?_, h.gB, ?_⟩
  · rcases k8 gs e with e1 | e1
    · exact h.n1 e1
    · omega
  · rcases k9 gs e with e1 | e1
    · exact h.n2 e1
    · have := f8.size; omega
  · exact (h.bel.trans (f8.below (fun x hx e => by have := (hl1 x e).1; omega) h.bel.size)).trans (f9.below (fun x hx e => by have := (hl2 x e).1; omega) (by have := f8.size; have := h.bel.size; omega))
end Go.Proofs.Ytjecjlnkpbbanaa
