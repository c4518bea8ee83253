/- Data with marks by numbers: what Marked makes. -/
import Derived.Test.YtlkpddokmibkiaaP3
import Derived.Test.YtlkpddokmibkiaaM1
namespace Go.Proofs.Ytlkpddokmibkiaa
open Go.RowKit
set_option linter.unusedVariables false
set_option linter.unusedSimpArgs false

/-- The marks that a symbol gets at place p of the numbers: so many at most. -/
def mks (ns : List Int) : Nat → Nat → List Int
  | 0, _ => []
  | m + 1, p => if h : p < ns.length then (if 0 < ns[p] % 3 then (1 + ns[p] % 5) :: mks ns m (p + 1) else []) else []
theorem mks_len (ns : List Int) : ∀ m p, (mks ns m p).length ≤ m
  | 0, _ => by simp [mks]
  | m + 1, p => by
    rw [mks]
    split
    · split
      · have := mks_len ns m (p + 1); simp; omega
      · simp
    · simp
/-- The marks of a datum of this kind. -/
def mksAt (ns : List Int) (k : Int) (p : Nat) : List Int := if k = 3 then mks ns 4 p else []
theorem mksAt_len (ns : List Int) (k : Int) (p : Nat) : (mksAt ns k p).length ≤ 4 := by
  unfold mksAt; split
  · exact mks_len _ _ _
  · simp
namespace Dt
mutual
/-- With marks, from place p of the numbers on. -/
def mark (ns : List Int) : Dt → Nat → Dt
  | mk k t _ l _, p => mk k t (mksAt ns k p) (marksAll ns l (p + (mksAt ns k p).length + 1)) p
/-- Where the next one begins. -/
def next (ns : List Int) : Dt → Nat → Nat
  | mk k _ _ l _, p => nexts ns l (p + (mksAt ns k p).length + 1)
def marksAll (ns : List Int) : List Dt → Nat → List Dt
  | [], _ => []
  | d :: l, p => d.mark ns p :: marksAll ns l (d.next ns p)
def nexts (ns : List Int) : List Dt → Nat → Nat
  | [], p => p
  | d :: l, p => nexts ns l (d.next ns p)
end
end Dt
theorem marksAll_length (ns : List Int) : ∀ (l : List Dt) (p : Nat), (Dt.marksAll ns l p).length = l.length
  | [], _ => by simp [Dt.marksAll]
  | d :: l, p => by simp [Dt.marksAll, marksAll_length ns l]
theorem marksAll_snoc (ns : List Int) : ∀ (l : List Dt) (d : Dt) (p : Nat), Dt.marksAll ns (l ++ [d]) p = Dt.marksAll ns l p ++ [d.mark ns (Dt.nexts ns l p)]
  | [], d, p => by simp [Dt.marksAll, Dt.nexts]
  | e :: l, d, p => by simp [Dt.marksAll, Dt.nexts, marksAll_snoc ns l]
theorem nexts_snoc (ns : List Int) : ∀ (l : List Dt) (d : Dt) (p : Nat), Dt.nexts ns (l ++ [d]) p = d.next ns (Dt.nexts ns l p)
  | [], d, p => by simp [Dt.nexts]
  | e :: l, d, p => by simp [Dt.nexts, nexts_snoc ns l]
theorem marksAll_take (ns : List Int) (l : List Dt) (j : Nat) (h : j < l.length) (p : Nat) : Dt.marksAll ns (l.take (j + 1)) p = Dt.marksAll ns (l.take j) p ++ [l[j].mark ns (Dt.nexts ns (l.take j) p)] := by
  rw [List.take_succ_eq_append_getElem h, marksAll_snoc]
theorem nexts_take (ns : List Int) (l : List Dt) (j : Nat) (h : j < l.length) (p : Nat) : Dt.nexts ns (l.take (j + 1)) p = l[j].next ns (Dt.nexts ns (l.take j) p) := by
  rw [List.take_succ_eq_append_getElem h, nexts_snoc]
mutual
theorem next_le (ns : List Int) : ∀ (d : Dt) (p : Nat), d.next ns p ≤ p + 5 * d.size
  | .mk k t ms l q, p => by
    have := nexts_le ns l (p + (mksAt ns k p).length + 1)
    have := mksAt_len ns k p
    simp only [Dt.next, Dt.size]; omega
theorem nexts_le (ns : List Int) : ∀ (l : List Dt) (p : Nat), Dt.nexts ns l p ≤ p + 5 * Dt.sizes l
  | [], p => by simp [Dt.nexts, Dt.sizes]
  | d :: l, p => by
    have := next_le ns d p
    have := nexts_le ns l (d.next ns p)
    simp only [Dt.nexts, Dt.sizes]; omega
end
theorem nexts_take_le (ns : List Int) : ∀ (l : List Dt) (j p : Nat), Dt.nexts ns (l.take j) p ≤ p + 5 * Dt.sizes l
  | l, j, p => by
    have h := nexts_le ns (l.take j) p
    have : Dt.sizes (l.take j) ≤ Dt.sizes l := by
      clear h
      induction l generalizing j with
      | nil => simp
      | cons d l ih =>
        cases j with
        | zero => simp [Dt.sizes]
        | succ j => have := ih j; simp only [List.take_succ_cons, Dt.sizes]; omega
    omega
mutual
theorem mark_size (ns : List Int) : ∀ (d : Dt) (p : Nat), (d.mark ns p).size = d.size
  | .mk k t ms l q, p => by simp only [Dt.mark, Dt.size, marksAll_sizes ns l]
theorem marksAll_sizes (ns : List Int) : ∀ (l : List Dt) (p : Nat), Dt.sizes (Dt.marksAll ns l p) = Dt.sizes l
  | [], p => by simp [Dt.marksAll]
  | d :: l, p => by simp only [Dt.marksAll, Dt.sizes, mark_size ns d, marksAll_sizes ns l]
end
mutual
theorem mark_txt (ns : List Int) : ∀ (d : Dt) (p : Nat), (d.mark ns p).txt = d.txt
  | .mk k t ms l q, p => by simp only [Dt.mark, Dt.txt, marksAll_txts ns l]
theorem marksAll_txts (ns : List Int) : ∀ (l : List Dt) (p : Nat), Dt.txts (Dt.marksAll ns l p) = Dt.txts l
  | [], p => by simp [Dt.marksAll]
  | d :: l, p => by simp only [Dt.marksAll, Dt.txts, mark_txt ns d, marksAll_txtr ns l]
theorem marksAll_txtr (ns : List Int) : ∀ (l : List Dt) (p : Nat), Dt.txtr (Dt.marksAll ns l p) = Dt.txtr l
  | [], p => by simp [Dt.marksAll]
  | d :: l, p => by simp only [Dt.marksAll, Dt.txtr, mark_txt ns d, marksAll_txtr ns l]
end
mutual
/-- What is plain has the same text, size; made plain again it stays. -/
theorem plain_txt : ∀ (d : Dt), d.plain.txt = d.txt
  | .mk k t ms l q => by simp only [Dt.plain, Dt.txt, plains_txts l]
theorem plains_txts : ∀ (l : List Dt), Dt.txts (Dt.plains l) = Dt.txts l
  | [] => by simp [Dt.plains]
  | d :: l => by simp only [Dt.plains, Dt.txts, plain_txt d, plains_txtr l]
theorem plains_txtr : ∀ (l : List Dt), Dt.txtr (Dt.plains l) = Dt.txtr l
  | [] => by simp [Dt.plains]
  | d :: l => by simp only [Dt.plains, Dt.txtr, plain_txt d, plains_txtr l]
end
mutual
theorem plain_size : ∀ (d : Dt), d.plain.size = d.size
  | .mk k t ms l q => by simp only [Dt.plain, Dt.size, plains_sizes l]
theorem plains_sizes : ∀ (l : List Dt), Dt.sizes (Dt.plains l) = Dt.sizes l
  | [] => by simp [Dt.plains]
  | d :: l => by simp only [Dt.plains, Dt.sizes, plain_size d, plains_sizes l]
end
mutual
theorem plain_plain : ∀ (d : Dt), d.plain.plain = d.plain
  | .mk k t ms l q => by simp only [Dt.plain, plains_plains l]
theorem plains_plains : ∀ (l : List Dt), Dt.plains (Dt.plains l) = Dt.plains l
  | [] => by simp [Dt.plains]
  | d :: l => by simp only [Dt.plains, plain_plain d, plains_plains l]
end
namespace Dt
mutual
/-- Has it no marks? -/
def bare : Dt → Bool
  | mk _ _ ms l _ => ms.isEmpty && bares l
def bares : List Dt → Bool
  | [] => true
  | d :: l => d.bare && bares l
end
end Dt
mutual
theorem plain_bare : ∀ (d : Dt), d.plain.bare = true
  | .mk k t ms l q => by simp [Dt.plain, Dt.bare, plains_bares l]
theorem plains_bares : ∀ (l : List Dt), Dt.bares (Dt.plains l) = true
  | [] => by simp [Dt.plains, Dt.bares]
  | d :: l => by simp [Dt.plains, Dt.bares, plain_bare d, plains_bares l]
end
end Go.Proofs.Ytlkpddokmibkiaa
