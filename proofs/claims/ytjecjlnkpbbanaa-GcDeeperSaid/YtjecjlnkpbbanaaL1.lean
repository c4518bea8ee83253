/- The law's first look: a known heap. -/
import Derived.Test.YtjecjlnkpbbanaaL0
namespace Go.Proofs.Ytjecjlnkpbbanaa
open Go Go.RowKit
set_option linter.unusedVariables false
set_option linter.unusedSimpArgs false
theorem ivals1 (x : Int) : ivals [x] = #[.int .i64 x] := rfl
theorem ivals2 (x y : Int) : ivals [x, y] = #[.int .i64 x, .int .i64 y] := rfl
/-- A row of one number that was just laid. -/
theorem one_isS (w : World) (x : Int) : IsS (w.alloc (.cells #[.int .i64 x] 3)) (.slice (some ⟨w.heap.size, 0, none⟩) 1 1) [x] := block_isS (l := [x]) (alloc_at w _)
theorem two_isS (w : World) (x y : Int) : IsS (w.alloc (.cells #[.int .i64 x, .int .i64 y] 3)) (.slice (some ⟨w.heap.size, 0, none⟩) 2 2) [x, y] := block_isS (l := [x, y]) (alloc_at w _)
theorem HL.apart {B w : World} {b : Nat} {G : Option Nat} {os : List Ob} {m : Nat} (h : HL B w b G os m) {n c : Nat} : Apart (.slice (some ⟨w.heap.size, 0, none⟩) n c) b G :=
  apart_lt rfl (by have := h.hp.1.lt; omega) (fun e => by have := (h.hp.1.glt _ e).1; omega)
theorem RetI.form {xs : List Int} {w w' : World} {e : Ending} (h : RetI xs w e w') : ∃ ao c, e = .returned (.slice ao xs.length c) ∧ w'.ownsRow w.heap.size 3 1 (.slice ao xs.length c) xs.length (xs.map (Value.int .i64)) ∧ Below w.heap.size w w' := by
  obtain ⟨v, rfl, h1, h2⟩ := h
  obtain ⟨ao, c, rfl⟩ := own_sform h1
  exact ⟨ao, c, rfl, h1, h2⟩
end Go.Proofs.Ytjecjlnkpbbanaa
