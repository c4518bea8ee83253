/- The contract of Num, of any slice that came in. -/
import Derived.Test.YtebadokchhnmfaaDoorU1
namespace Go.Proofs.YtebadokchhnmfaaDoor
open Go.RowKit Go.BigM
set_option linter.unusedVariables false

/-- WHAT THE WALK IS TOLD OF A SLICE OF INTEGERS THAT CAME IN: it is nil; or it leads to a row of 'cap' cells. -/
def IsRow (k : IntKind) (w : World) (a : Option Addr) (len cap : Nat) (zs : List Int) : Prop :=
  (a = none ∧ len = 0 ∧ cap = 0 ∧ zs = []) ∨
  ∃ x, a = some x ∧ len ≤ cap ∧ cap ≤ maxLen ∧ zs.length = cap ∧ (∀ i, i < zs.length → w.cell? (x.add i) = some (.int k (zs.getD i 0))) ∧ ∀ n ∈ zs, (Lit.int k n).wf = true

set_option maxHeartbeats 1000000 in
set_option maxRecDepth 100000 in
theorem num_nil (most : Nat) (lo : Bool) (w : World) (hm1 : 1 ≤ most) (hm : most ≤ 200) :
    Calls Tryd.prog 14 #[.slice none 0 0, .int .i64 most, .bool lo] w (NumR most lo w) := by
  go_enter Tryd.func14, Tryd.ntmps14
  go_wp2
  go_loop [7, 8] (fun sv iv => sv = .string ⟨#[]⟩ ∧ iv = .int .i64 0) (fun _ _ => 0)
  case atStart => exact ⟨rfl, rfl⟩
  case round =>
    obtain ⟨rfl, rfl⟩ := hrel
    go_wp2_with fail
    go_ret
    exact ⟨⟨#[48]⟩, rfl, by decide, hm1, fun _ => rfl, Below.refl _ _⟩

theorem IsRow.below {w w' : World} {a : Option Addr} {n cap : Nat} {zs : List Int} (h : IsRow .i64 w a n cap zs) (hb : Below w.heap.size w w') : IsRow .i64 w' a n cap zs := by
  rcases h with h | ⟨x, h1, h2, h3, h4, h5, h6⟩
  · exact Or.inl h
  · exact Or.inr ⟨x, h1, h2, h3, h4, fun i hi => by rw [hb.cell (World.block_lt_of_cell? w _ (h5 i hi))]; exact h5 i hi, h6⟩
theorem wf_I64 (n : Int) (h : (Lit.int .i64 n).wf = true) : I64 n := by
  simpa [Lit.wf, IntKind.min, IntKind.max, IntKind.signed, IntKind.bits, I64] using h
theorem num_any (a : Option Addr) (n cap most : Nat) (zs : List Int) (lo : Bool) (w : World) (h : IsRow .i64 w a n cap zs) (hm1 : 1 ≤ most) (hm : most ≤ 200) :
    Calls Tryd.prog 14 #[.slice a n cap, .int .i64 most, .bool lo] w (NumR most lo w) := by
  rcases h with ⟨rfl, rfl, rfl, _⟩ | ⟨x, rfl, h2, h3, h4, h5, h6⟩
  · exact num_nil most lo w hm1 hm
  · refine num_some x n cap most zs lo w hm hm1 (by omega) (fun k hk => h5 k (by omega)) (fun k hk => wf_I64 _ (h6 _ ?_))
    rw [List.getD_eq_getElem?_getD, List.getElem?_eq_getElem (by omega)]
    exact List.getElem_mem _
end Go.Proofs.YtebadokchhnmfaaDoor
