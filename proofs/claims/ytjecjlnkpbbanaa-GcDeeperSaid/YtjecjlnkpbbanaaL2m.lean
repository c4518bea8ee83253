/- Plain facts on rows of atoms. -/
import Derived.Test.YtjecjlnkpbbanaaL1
namespace Go.Proofs.Ytjecjlnkpbbanaa
open Go Go.RowKit
set_option linter.unusedVariables false
set_option linter.unusedSimpArgs false
def I64 (a : Int) : Prop := -9223372036854775808 ≤ a ∧ a ≤ 9223372036854775807
theorem wf_I64 (a : Int) (h : (Lit.int .i64 a).wf = true) : I64 a := by
  simpa [Lit.wf, IntKind.min, IntKind.max, IntKind.signed, IntKind.bits, I64] using h
theorem within_at (a : Int) (n : Nat) (ha : I64 a) (h1 : 1 ≤ n) (h2 : n ≤ 1000) (w : World) : ∃ k : Nat, k < n ∧ (k : Int) = a % n ∧ Calls Try.prog 57 #[.int .i64 a, .int .i64 n] w fun e w' => e = .returned (.int .i64 (k : Int)) ∧ w = w' := by
  have h3 := Int.emod_nonneg a (show (n : Int) ≠ 0 by omega)
  have h4 := Int.emod_lt_of_pos a (show (0 : Int) < n by omega)
  refine ⟨(a % n).toNat, by omega, by omega, ?_⟩
  rw [show (((a % n).toNat : Nat) : Int) = a % n by omega]
  exact within_any a n w ha.1 ha.2 (by omega) (by omega)
theorem ints_eq {w : World} {xv yv : Value} {xs : List Int} (hx : IsS w xv xs) (hy : IsS w yv xs) (hl : xs.length ≤ 1000000) : Calls Try.prog 18 #[xv, yv] w (RetV (.bool true) w) := by
  have := ints_any w xv yv xs xs hx hy hl hl
  rw [decide_eq_true rfl] at this
  exact this
def IsRow (k : IntKind) (w : World) (a : Option Addr) (len cap : Nat) (zs : List Int) : Prop :=
  (a = none ∧ len = 0 ∧ cap = 0 ∧ zs = []) ∨
  ∃ x, a = some x ∧ len ≤ cap ∧ cap ≤ maxLen ∧ zs.length = cap ∧ (∀ i, i < zs.length → w.cell? (x.add i) = some (.int k (zs.getD i 0))) ∧ ∀ n ∈ zs, (Lit.int k n).wf = true
/-- Numbers that came in. -/
def ArgS (w : World) (a : Option Addr) (len : Nat) : Prop := len ≤ 9223372036854775807 ∧ ∀ i, i < len → ∃ x y, a = some x ∧ w.cell? (x.add i) = some (.int .i64 y) ∧ I64 y
theorem IsRow.arg {w : World} {a : Option Addr} {len cap : Nat} {zs : List Int} (h : IsRow .i64 w a len cap zs) : ArgS w a len := by
  rcases h with ⟨rfl, rfl, _, _⟩ | ⟨x, rfl, h1, h2, h3, h4, h5⟩
  · exact ⟨by omega, fun i hi => by omega⟩
  · refine ⟨by unfold maxLen at h2; omega, fun i hi => ⟨x, zs.getD i 0, rfl, h4 i (by omega), ?_⟩⟩
    rw [List.getD_eq_getElem?_getD, List.getElem?_eq_getElem (by omega)]
    exact wf_I64 _ (h5 _ (List.getElem_mem _))
theorem ArgS.below {w w' : World} {a : Option Addr} {len : Nat} (h : ArgS w a len) (hb : Below w.heap.size w w') : ArgS w' a len :=
  ⟨h.1, fun i hi => by
    obtain ⟨x, y, e, hc, hy⟩ := h.2 i hi
    exact ⟨x, y, e, (hb.cell (World.block_lt_of_cell? w _ hc)).trans hc, hy⟩⟩
def atom : Ob := newO 7 [] []
def atoms (i : Nat) : List Ob := List.replicate i atom
theorem atoms_total (i : Nat) : total (atoms i) = 2 * i := by
  induction i with
  | zero => rfl
  | succ i ih =>
    have e : atoms (i + 1) = atom :: atoms i := rfl
    rw [e]; simp only [total, ih]
    have : atom.size = 2 := by decide
    omega
theorem atoms_snoc (i : Nat) : atoms i ++ [newO 7 [] []] = atoms (i + 1) := by
  unfold atoms; rw [List.replicate_succ']; rfl
theorem ob_lt {os : List Ob} {a : Int} {o : Ob} (h : ob os a = some o) : 0 ≤ a ∧ a < total os := by
  obtain ⟨i, hi, h1, h2, rfl⟩ := ob_some h
  have := adr_le hi
  unfold Ob.size at this
  omega
theorem bey_over {os : List Ob} {a : Int} (h : total os < a) : bey os a = true := by
  unfold bey
  cases hb : ob os a with
  | some o => have := ob_lt hb; omega
  | none => simp; omega
theorem bey_end (os : List Ob) : bey os (total os : Nat) = false := by unfold bey; simp
theorem ob_new (os : List Ob) (o : Ob) : ob (os ++ [o]) (total os : Nat) = some o := by rw [ob_snoc, if_pos rfl]
theorem ptrs_new (os : List Ob) (t : Nat) (ps ns : List Int) : ptrsOf (os ++ [newO t ps ns]) (total os : Nat) = ps := by unfold ptrsOf; rw [ob_new]; exact newO_ptrs t ps ns
theorem nums_new (os : List Ob) (t : Nat) (ps ns : List Int) : numsOf (os ++ [newO t ps ns]) (total os : Nat) = ns := by unfold numsOf; rw [ob_new]; exact newO_nums t ps ns
theorem tag_new (os : List Ob) (t : Nat) (ps ns : List Int) : (hdo (os ++ [newO t ps ns]) (total os : Nat)).t = t := by unfold hdo; rw [ob_new]; rfl
theorem fol_new (os : List Ob) (t : Nat) (ps ns : List Int) (h : t ≠ 5) : folOf (os ++ [newO t ps ns]) (total os : Nat) = (total os : Nat) := by
  unfold folOf fol; rw [ob_new]; simp [newO, h]
def AtInv (B : World) (b m k : Nat) (w : World) (iv : Value) (wr : World) : Prop := ∃ i : Nat, i ≤ k ∧ iv = .int .i64 (i : Int) ∧ ∃ G, HL B wr b G (atoms i) m
/-- One atom more. -/
theorem atom_more {B w : World} {b : Nat} {G : Option Nat} {i m : Nat} (h : HL B w b G (atoms i) m) (hr : 2 * i + 2 ≤ m) :
    Calls Try.prog 28 #[.pointer (some ⟨b, 0, none⟩), .int .i64 7, .slice none 0 0, .slice none 0 0] w fun e w' => e = .returned (.tuple #[.int .i64 ((2 * i : Nat) : Int), .bool true]) ∧ ∃ G', HL B w' b G' (atoms (i + 1)) m := by
  have := alloc_yes h.hp 7 [] [] (.slice none 0 0) (.slice none 0 0) (nil_isS _) (nil_isS _) (apart_nil _ _) (apart_nil _ _) (by intro p hp; cases hp) (by decide) rfl (by rw [atoms_total]; exact hr)
  refine this.mono ?_
  intro e w' hr2
  obtain ⟨he, G', h'⟩ := h.turn hr2
  rw [atoms_snoc] at h'
  rw [atoms_total] at he
  exact ⟨he, G', h'⟩
end Go.Proofs.Ytjecjlnkpbbanaa
