/- Raw data as trees, how they lie in memory, and how they are read. -/
import Derived.Test.YtkjcbaikebdmmaaDoorK0
import Derived.Deep.Slices
import Derived.Deep.Fields
import Derived.ChangeSame
import Derived.Below
namespace Go.Proofs.YtkjcbaikebdmmaaDoor
open Go.RowKit Go.ChangeShapes Go.WideShapes Go.Deep
set_option linter.unusedVariables false

/-- A raw datum: two numbers, and parts. -/
inductive Rw where
  | mk (k n : Int) (l : List Rw) : Rw
namespace Rw
def num : Rw → Int | mk k _ _ => k
def at_ : Rw → Int | mk _ n _ => n
def parts : Rw → List Rw | mk _ _ l => l
mutual
/-- How many there are, with itself. -/
def cnt : Rw → Nat
  | mk _ _ l => 1 + cnts l
def cnts : List Rw → Nat
  | [] => 0
  | r :: l => r.cnt + cnts l
end
end Rw

mutual
/-- At this address lies this raw datum. -/
def Rw.At (w : World) : Rw → Addr → Prop
  | .mk k n l, a => w.cell? (a.add 0) = some (.int .i64 k) ∧ w.cell? (a.add 1) = some (.int .i64 n) ∧ I64 k ∧ I64 n ∧
      ∃ ao cap, w.cell? (a.add 2) = some (.slice ao l.length cap) ∧ l.length ≤ maxLen ∧ (l = [] ∨ ∃ b, ao = some b ∧ Rws.At w l b)
/-- From this address on lie these, one behind the other. -/
def Rws.At (w : World) : List Rw → Addr → Prop
  | [], _ => True
  | r :: l, b => Rw.At w r b ∧ Rws.At w l (b.add 3)
end
/-- A slice that reads as these. -/
def RsAt (w : World) (ao : Option Addr) (l : List Rw) : Prop := l.length ≤ maxLen ∧ (l = [] ∨ ∃ b, ao = some b ∧ Rws.At w l b)

theorem Rws.At.get {w : World} : ∀ (l : List Rw) (b : Addr), Rws.At w l b → ∀ j (h : j < l.length), Rw.At w l[j] (b.add (j * 3))
  | [], _, _, j, h => by simp at h
  | r :: l, b, H, 0, _ => by
    unfold Rws.At at H
    have e : b.add (0 * 3) = b := by simp [Addr.add]
    rw [e]; exact H.1
  | r :: l, b, H, j + 1, h => by
    unfold Rws.At at H
    have := Rws.At.get l (b.add 3) H.2 j (by simpa using h)
    rw [add_add] at this
    have e : 3 + j * 3 = (j + 1) * 3 := by omega
    rw [e] at this
    exact this
theorem Rws.At.of_get {w : World} : ∀ (l : List Rw) (b : Addr), (∀ j (h : j < l.length), Rw.At w l[j] (b.add (j * 3))) → Rws.At w l b
  | [], _, _ => by unfold Rws.At; trivial
  | r :: l, b, H => by
    unfold Rws.At
    refine ⟨?_, Rws.At.of_get l (b.add 3) fun j h => ?_⟩
    · have := H 0 (by simp)
      have e : b.add (0 * 3) = b := by simp [Addr.add]
      rw [e] at this; exact this
    · have := H (j + 1) (by simpa using h)
      rw [add_add]
      have e : 3 + j * 3 = (j + 1) * 3 := by omega
      rw [e]; exact this
theorem cell_below {w w' : World} (h : Below w.heap.size w w') {a : Addr} {v : Value} (hc : w.cell? a = some v) : w'.cell? a = some v := by
  rw [h.cell (World.block_lt_of_cell? w a hc)]; exact hc
mutual
theorem Rw.At.below {w w' : World} (h : Below w.heap.size w w') : ∀ (r : Rw) (a : Addr), Rw.At w r a → Rw.At w' r a
  | .mk k n l, a, H => by
    unfold Rw.At at H ⊢
    obtain ⟨h1, h2, h3, h4, ao, cap, h5, h6, h7⟩ := H
    refine ⟨cell_below h h1, cell_below h h2, h3, h4, ao, cap, cell_below h h5, h6, ?_⟩
    rcases h7 with h7 | ⟨b, h8, h9⟩
    · exact .inl h7
    · exact .inr ⟨b, h8, Rws.At.below h l b h9⟩
theorem Rws.At.below {w w' : World} (h : Below w.heap.size w w') : ∀ (l : List Rw) (b : Addr), Rws.At w l b → Rws.At w' l b
  | [], _, _ => by unfold Rws.At; trivial
  | r :: l, b, H => by
    unfold Rws.At at H ⊢
    exact ⟨Rw.At.below h r b H.1, Rws.At.below h l (b.add 3) H.2⟩
end
theorem RsAt.below {w w' : World} {ao : Option Addr} {l : List Rw} (H : RsAt w ao l) (h : Below w.heap.size w w') : RsAt w' ao l := by
  refine ⟨H.1, ?_⟩
  rcases H.2 with h7 | ⟨b, h8, h9⟩
  · exact .inl h7
  · exact .inr ⟨b, h8, Rws.At.below h l b h9⟩
/-- One part of a slice: its cells, and its own parts. -/
theorem RsAt.get {w : World} {ao : Option Addr} {l : List Rw} (H : RsAt w ao l) (j : Nat) (h : j < l.length) :
    ∃ b k n po pl pc, ao = some b ∧ l[j] = .mk k n pl ∧ w.cell? (b.add (j * 3)) = some (.int .i64 k) ∧ w.cell? ⟨(b.add (j * 3)).block, (b.add (j * 3)).off + 1, none⟩ = some (.int .i64 n) ∧ w.cell? ⟨(b.add (j * 3)).block, (b.add (j * 3)).off + 2, none⟩ = some (.slice po pl.length pc) ∧
      I64 k ∧ I64 n ∧ RsAt w po pl := by
  rcases H.2 with rfl | ⟨b, h8, h9⟩
  · simp at h
  · have := Rws.At.get l b h9 j h
    generalize hd : l[j] = d at this
    obtain ⟨k, n, pl⟩ := d
    unfold Rw.At at this
    obtain ⟨h1, h2, h3, h4, po, pc, h5, h6, h7⟩ := this
    have e : (b.add (j * 3)).add 0 = b.add (j * 3) := by simp [Addr.add]
    rw [e] at h1
    exact ⟨b, k, n, po, pl, pc, h8, rfl, h1, h2, h5, h3, h4, h6, h7⟩
theorem cnts_get : ∀ (l : List Rw) (j : Nat) (h : j < l.length), l[j].cnt ≤ Rw.cnts l
  | [], j, h => by simp at h
  | r :: l, 0, _ => by simp [Rw.cnts]
  | r :: l, j + 1, h => by
    have := cnts_get l j (by simpa using h)
    simp only [Rw.cnts, List.getElem_cons_succ]; omega
theorem length_cnts : ∀ (l : List Rw), l.length ≤ Rw.cnts l
  | [] => by simp
  | r :: l => by
    have h1 := length_cnts l
    have h2 : 1 ≤ r.cnt := by cases r; simp only [Rw.cnt]; omega
    simp only [List.length_cons, Rw.cnts]; omega
end Go.Proofs.YtkjcbaikebdmmaaDoor
