/- Read: its frame, what holds at its labels. -/
import Derived.Test.YtkjcbaikebdmmaaDoorJ15
import Derived.OwnWalk
namespace Go.Proofs.YtkjcbaikebdmmaaDoor
open Go.RowKit
set_option linter.unusedVariables false
set_option linter.unusedSimpArgs false
/-- The frame at a label. -/
def Tm (s : ByteArray) (p bd : Nat) (v : Value) (a : Act) : Prop := ∃ f : Nat → Value, a = { tmps := #[.string s, f 1, .slice none 0 0, .int .i64 p, .int .i64 0, .pointer (some ⟨bd, 0, none⟩), f 6, v, f 8, f 9, f 10, f 11, f 12, f 13, f 14, f 15, f 16, f 17, f 18, f 19, f 20, f 21, f 22, f 23, f 24, f 25, f 26, f 27, f 28, f 29, f 30, f 31, f 32, f 33, f 34, f 35, f 36, f 37, f 38, f 39, f 40, f 41, f 42, f 43, f 44, f 45, f 46, f 47, f 48, f 49, f 50, f 51, f 52, f 53, f 54, f 55, f 56, f 57, f 58, f 59, f 60, f 61, f 62, f 63, f 64, f 65, f 66, f 67, f 68, f 69, f 70, f 71, f 72, f 73, f 74, f 75, f 76, f 77, f 78, f 79, f 80, f 81, f 82, f 83, f 84, f 85, f 86, f 87, f 88, f 89, f 90, f 91, f 92, f 93, f 94, f 95, f 96, f 97, f 98, f 99, f 100, f 101, f 102, f 103, f 104, f 105, f 106, f 107, f 108, f 109], defers := [] }
theorem Tm.intro {s : ByteArray} {p bd : Nat} {v : Value} {t : Array Value} (h : t = #[.string s, t.getD 1 undef, .slice none 0 0, .int .i64 p, .int .i64 0, .pointer (some ⟨bd, 0, none⟩), t.getD 6 undef, v, t.getD 8 undef, t.getD 9 undef, t.getD 10 undef, t.getD 11 undef, t.getD 12 undef, t.getD 13 undef, t.getD 14 undef, t.getD 15 undef, t.getD 16 undef, t.getD 17 undef, t.getD 18 undef, t.getD 19 undef, t.getD 20 undef, t.getD 21 undef, t.getD 22 undef, t.getD 23 undef, t.getD 24 undef, t.getD 25 undef, t.getD 26 undef, t.getD 27 undef, t.getD 28 undef, t.getD 29 undef, t.getD 30 undef, t.getD 31 undef, t.getD 32 undef, t.getD 33 undef, t.getD 34 undef, t.getD 35 undef, t.getD 36 undef, t.getD 37 undef, t.getD 38 undef, t.getD 39 undef, t.getD 40 undef, t.getD 41 undef, t.getD 42 undef, t.getD 43 undef, t.getD 44 undef, t.getD 45 undef, t.getD 46 undef, t.getD 47 undef, t.getD 48 undef, t.getD 49 undef, t.getD 50 undef, t.getD 51 undef, t.getD 52 undef, t.getD 53 undef, t.getD 54 undef, t.getD 55 undef, t.getD 56 undef, t.getD 57 undef, t.getD 58 undef, t.getD 59 undef, t.getD 60 undef, t.getD 61 undef, t.getD 62 undef, t.getD 63 undef, t.getD 64 undef, t.getD 65 undef, t.getD 66 undef, t.getD 67 undef, t.getD 68 undef, t.getD 69 undef, t.getD 70 undef, t.getD 71 undef, t.getD 72 undef, t.getD 73 undef, t.getD 74 undef, t.getD 75 undef, t.getD 76 undef, t.getD 77 undef, t.getD 78 undef, t.getD 79 undef, t.getD 80 undef, t.getD 81 undef, t.getD 82 undef, t.getD 83 undef, t.getD 84 undef, t.getD 85 undef, t.getD 86 undef, t.getD 87 undef, t.getD 88 undef, t.getD 89 undef, t.getD 90 undef, t.getD 91 undef, t.getD 92 undef, t.getD 93 undef, t.getD 94 undef, t.getD 95 undef, t.getD 96 undef, t.getD 97 undef, t.getD 98 undef, t.getD 99 undef, t.getD 100 undef, t.getD 101 undef, t.getD 102 undef, t.getD 103 undef, t.getD 104 undef, t.getD 105 undef, t.getD 106 undef, t.getD 107 undef, t.getD 108 undef, t.getD 109 undef]) : Tm s p bd v { tmps := t, defers := [] } := ⟨fun i => t.getD i undef, by rw [← h]⟩
def Pc.label : Pc → Nat
  | .next => 0 | .stop => 1 | .begin => 2 | .finish => 3 | .token => 4 | .put _ => 5
/-- What holds at a label: n steps from here Read answers R. -/
def Jr (s : ByteArray) (w0 : World) (R : Rs) (n l : Nat) (a : Act) (w : World) : Prop :=
  ∃ (p : Nat) (v : Value) (e : En) (r : List En) (D : Nat → Prop) (pc : Pc) (C : Array Value), Tm s p w0.heap.size v a ∧ pc.label = l ∧ rd s.data.toList n pc p e r = some R ∧ StackAt D (w0.heap.size + 1) w v e r ∧ Below w0.heap.size w0 w ∧ w0.heap.size + 1 ≤ w.heap.size ∧
    Boxed w0.heap.size C w ∧ C.size = 5 ∧ (∀ d, pc = .put d → Dt.At D w d C) ∧ p ≤ s.size ∧ r.length ≤ 60 ∧ (∀ x, x ∈ e :: r → x.ds.length + (match pc with | .put _ => 1 | _ => 0) ≤ p) ∧ (pc = .begin → p < s.size) ∧ (pc = .finish → p < s.size)
/-- What Read leaves. -/
def RetRead (w0 : World) (R : Rs) (e : Ending) (w : World) : Prop :=
  Below w0.heap.size w0 w ∧ match R with
  | .ok ds => ∃ v, e = .returned (.tuple #[v, .int .i64 0, .int .i64 0]) ∧ LAt (fun g => w0.heap.size ≤ g) w v ds
  | .err c p => e = .returned (.tuple #[.slice none 0 0, .int .i64 p, .int .i64 c])
end Go.Proofs.YtkjcbaikebdmmaaDoor
