/- Term: what its loops keep. -/
import Derived.Test.YtmcgocbkjdacaaaDoorZD
namespace Go.Proofs.YtmcgocbkjdacaaaDoor
open Go.RowKit Go.BigM
set_option linter.unusedVariables false
set_option linter.unusedSimpArgs false
/-- What Term hands back: a made term, closed, its names from 1 on. -/
def RetTerm (w : World) (e : Ending) (w' : World) : Prop :=
  ∃ cs t m', e = .returned (.agg cs) ∧ Et.At (fun x => w.heap.size ≤ x) w' t cs ∧ Made [] 0 m' t ∧ t.size ≤ 400 ∧ m' ≤ 99 ∧ Below w.heap.size w w'
/-- The loop over names: so many but one are made. -/
def LT (W0 : World) (g ge q : Nat) (iv : Value) (wr : World) : Prop :=
  ∃ (i j : Nat) (nv : Value), i ≤ q ∧ j + 1 = i ∧ iv = .int .i64 (i : Int) ∧ EB wr ge 9 ⟨#[]⟩ nv (.slice none 0 0) ∧ OwnN W0.heap.size wr nv (nms 0 j) ∧ Mk wr g j ∧ But2 W0.heap.size g ge W0 wr
theorem LT.step {W0 : World} {g ge q : Nat} {no : Option Addr} {nc : Nat} {wr : World} {i j : Nat}
    (hiq : i < q) (hij : j + 1 = i) (heb : EB wr ge 9 ⟨#[]⟩ (.slice no j nc) (.slice none 0 0)) (hn : OwnN W0.heap.size wr (.slice no j nc) (nms 0 j)) (hbut : But2 W0.heap.size g ge W0 wr) (hgb : g < W0.heap.size) (hgeb : ge < W0.heap.size) (hne : ge ≠ g)
    {w7 : World} (hmk7 : Mk w7 g (j + 1)) (hb7 : But wr.heap.size g wr w7) (s : ByteArray) (hs : s = nm (j + 1)) :
    But2 W0.heap.size g ge wr w7 ∧ w7.cell? ⟨ge, 2, none⟩ = some (.slice no j nc) ∧ But2 W0.heap.size g ge wr (w7.alloc (.cells #[.string s] 9)) ∧ (w7.alloc (.cells #[.string s] 9)).cell? ⟨ge, 2, none⟩ = some (.slice no j nc) ∧
      OwnN W0.heap.size (w7.alloc (.cells #[.string s] 9)) (.slice no j nc) (nms 0 j) ∧ (w7.alloc (.cells #[.string s] 9)).cell? ⟨w7.heap.size, 0, none⟩ = some (.string s) ∧ W0.heap.size ≤ (w7.alloc (.cells #[.string s] 9)).heap.size ∧
      ∀ no' nc' w9, OwnN W0.heap.size w9 (.slice no' (j + 1) nc') (nms 0 j ++ [s]) → (w7.alloc (.cells #[.string s] 9)).grownBy w9 (Value.slice no j nc).ownBlock →
        But2 W0.heap.size g ge wr w9 ∧ w9.cell? ⟨ge, 2, none⟩ = some (.slice no j nc) ∧ w9.frozen? ⟨ge, 2, none⟩ = false ∧ But2 W0.heap.size g ge wr (w9.setCell ⟨ge, 2, none⟩ (.slice no' (j + 1) nc')) ∧
        LT W0 g ge q (.int .i64 ((i : Int) + 1)) (w9.setCell ⟨ge, 2, none⟩ (.slice no' (j + 1) nc')) := by
  have hs0 := hbut.size
  have hgw : ge < wr.heap.size := by omega
  have h7 := hb7.size
  have c7 : w7.cell? ⟨ge, 2, none⟩ = some (.slice no j nc) := (hb7.cell (p := ⟨ge, 2, none⟩) hgw hne).trans (EB.cell _ _ _ _ _ _ heb).2.2.1
  have hn7 := hn.but hb7 hgb
  have ha : Below w7.heap.size w7 (w7.alloc (.cells #[.string s] 9)) := (Below.refl _ _).alloc (Nat.le_refl _) _
  have z8 : (w7.alloc (.cells #[.string s] 9)).heap.size = w7.heap.size + 1 := by simp
  refine ⟨But2.of (hb7.mono hs0), c7, But2.of ((hb7.alloc h7 _).mono hs0), cell_below ha c7, hn7.below ha, by rw [Lib.cell_of_heap (alloc_at w7 _)]; rfl, by omega, fun no' nc' w9 h9 hg9 => ?_⟩
  have hb9 : But W0.heap.size g wr w9 := ((hb7.alloc h7 _).mono hs0).grown hg9 (by omega) (fun k hk => (hn.lt hk).1)
  have heb9 : EB w9 ge 9 ⟨#[]⟩ (.slice no j nc) (.slice none 0 0) := by unfold EB; rw [hb9.block ge hgeb hne]; exact heb
  have hmk9 : Mk w9 g (j + 1) := by
    have a1 : Mk (w7.alloc (.cells #[.string s] 9)) g (j + 1) := hmk7.below ha
    unfold Mk at a1 ⊢
    rw [hg9.block g (by have := Array.getElem?_eq_some_iff.1 a1; exact this.1) (fun e => by have := (hn.lt e.symm).1; omega)]; exact a1
  have e1 : nms 0 j ++ [s] = nms 0 (j + 1) := by rw [hs]; exact (nms_succ 0 j (by omega)).symm
  rw [e1] at h9
  refine ⟨But2.of hb9, (EB.cell _ _ _ _ _ _ heb9).2.2.1, heb9.frozen 2, (But2.of hb9).setCell (p := ⟨ge, 2, none⟩) (.inr rfl) _, i + 1, j + 1, _, by omega, by omega, by go_num, heb9.setN _, h9.setCell (a := ⟨ge, 2, none⟩) hgeb _, ?_, hbut.trans ((But2.of hb9).setCell (p := ⟨ge, 2, none⟩) (.inr rfl) _)⟩
  unfold Mk; rw [heap_setCell_other w9 ⟨ge, 2, none⟩ g _ (by show g ≠ ge; omega)]; exact hmk9
/-- The parts in their order: the first raw term last. -/
def ord (l : List Rw) (q : Nat) : List Rw := (l.drop 1).take (q - 1) ++ l.take 1
theorem ord_get (l : List Rw) (q j : Nat) (hq : q ≤ l.length) (hj : j + 1 < q) : (ord l q)[j]? = l[j + 1]? := by
  unfold ord
  rw [List.getElem?_append_left (by rw [List.length_take, List.length_drop]; omega), List.getElem?_take, if_pos (by omega), List.getElem?_drop]
  congr 1; omega
theorem ord_last (l : List Rw) (q : Nat) (hq : q ≤ l.length) (h1 : 1 ≤ q) : (ord l q)[q - 1]? = l[0]? := by
  unfold ord
  rw [List.getElem?_append_right (by rw [List.length_take, List.length_drop]; omega), List.length_take, List.length_drop, show q - 1 - min (q - 1) (l.length - 1) = 0 by omega, List.getElem?_take, if_pos (by decide)]
theorem cnts_append (a b : List Rw) : Rw.cnts (a ++ b) = Rw.cnts a + Rw.cnts b := by
  induction a with
  | nil => simp [Rw.cnts]
  | cons r a ih => simp only [List.cons_append, Rw.cnts, ih]; omega
theorem ord_cnts (l : List Rw) (q : Nat) : Rw.cnts (ord l q) ≤ Rw.cnts l := by
  unfold ord
  rw [cnts_append]
  have h1 := cnts_take_le (l.drop 1) (q - 1)
  have h2 : Rw.cnts l = Rw.cnts (l.take 1) + Rw.cnts (l.drop 1) := by rw [← cnts_append, List.take_append_drop]
  omega
theorem pcn_of {l : List Rw} {j : Nat} {r : Rw} (h : l[j]? = some r) : pcn l j = r.cnt := by unfold pcn; rw [h]
/-- The loop over parts: so many but one are made. -/
def LB (W1 : World) (g ge q m0 : Nat) (pl : List Rw) (sc : List ByteArray) (nv : Value) (iv : Value) (wr : World) : Prop :=
  ∃ i j : Nat, j + 1 = i ∧ i ≤ q ∧ iv = .int .i64 (i : Int) ∧ LA W1 g ge q m0 pl sc 9 ⟨#[]⟩ nv (.int .i64 (j : Int)) wr
theorem LB.next {W1 : World} {g ge q m0 : Nat} {pl : List Rw} {sc : List ByteArray} {nv : Value} {w : World} {i j : Nat} (h : LA W1 g ge q m0 pl sc 9 ⟨#[]⟩ nv (.int .i64 ((j : Int) + 1)) w) (hij : j + 1 = i) (hi : i < q) : LB W1 g ge q m0 pl sc nv (.int .i64 ((i : Int) + 1)) w := by
  refine ⟨i + 1, j + 1, by omega, by omega, by go_num, ?_⟩
  have e : ((j : Int) + 1) = ((j + 1 : Nat) : Int) := by omega
  rw [e] at h; exact h
end Go.Proofs.YtmcgocbkjdacaaaDoor
