/- Plain mathematics: digits, texts and limbs. Nothing of the program is named here. -/
import Derived.Test.YtecljchifebljaaProg
import Derived.WalkKit
import Derived.Lib.Hide
import Derived.Lib.TrimByte
import Derived.PlainAid
import Derived.OrdersHeld
import Derived.Lib.Strings
import Derived.Lib.Slices
import Derived.Lib.Walk
import Derived.Lib.Bytealg
import Derived.Laws.Externs
import Derived.Laws.ResultCell
import Derived.Laws.Rows
import Derived.Laws.AppendOwn
import Derived.Lib.Builder
import Derived.OwnWalk
set_option linter.unusedVariables false
set_option linter.unusedSimpArgs false
namespace Go.BigM

/-- A byte is a digit. -/
def isD (c : UInt8) : Prop := 48 ≤ c.toNat ∧ c.toNat ≤ 57
instance (c : UInt8) : Decidable (isD c) := by unfold isD; infer_instance

/-- The base of a limb. -/
def B : Nat := 1000000000

/-- A text without the sign that it may begin with. -/
def strip (l : List UInt8) : List UInt8 := if l.head? = some 45 then l.tail else l
/-- Does it begin with the sign? -/
def low (l : List UInt8) : Bool := l.head? == some 45
theorem strip_low (l : List UInt8) (h : low l = true) : strip l = l.tail := by unfold strip low at *; rw [if_pos (by simpa using h)]
theorem strip_high (l : List UInt8) (h : low l = false) : strip l = l := by unfold strip low at *; rw [if_neg (by simpa using h)]
/-- A number's text: W1 of the document. -/
def Canon (l : List UInt8) : Prop := 1 ≤ (strip l).length ∧ (strip l).length ≤ 200 ∧ (∀ c ∈ strip l, isD c) ∧ ((strip l).head? ≠ some 48 ∨ l = [48])
instance (l : List UInt8) : Decidable (Canon l) := by unfold Canon; infer_instance
theorem strip_le (l : List UInt8) : (strip l).length ≤ l.length := by unfold strip; split <;> simp

end Go.BigM
namespace Go.Proofs.Ytecljchifebljaa
open Go.RowKit Go.BigM

theorem ret_int {k : IntKind} {a b : Int} (h : a = b) : Ending.returned (.int k a) = .returned (.int k b) := by rw [h]

theorem take_snoc (s : ByteArray) (k : Nat) (h : k < s.size) : s.data.toList.take (k + 1) = s.data.toList.take k ++ [s[k]] := by
 rw [List.take_succ_eq_append_getElem (by simpa using h)]; rfl

end Go.Proofs.Ytecljchifebljaa
namespace Go.Proofs.Ytecljchifebljaa
open Go Go.RowKit
theorem zt {α : Type} (xs : List α) (i : Nat) (h : i < xs.toArray.size) : xs.toArray[i] = xs[i]'(by simpa using h) := List.getElem_toArray h
theorem zs {α : Type} (a : α) (l : List α) (i : Nat) (h : i + 1 < (a :: l).length) : (a :: l)[i + 1] = l[i]'(Nat.lt_of_succ_lt_succ h) := List.getElem_cons_succ ..
theorem zz {α : Type} (a : α) (l : List α) (h : 0 < (a :: l).length) : (a :: l)[0] = a := List.getElem_cons_zero ..
theorem zi {α : Type} (l : List α) (i : Nat) (a : α) : l.toArray.setIfInBounds i a = (l.set i a).toArray := List.setIfInBounds_toArray ..
theorem zy {α : Type} (x : α) (xs : List α) (a : α) : (x :: xs).set 0 a = a :: xs := List.set_cons_zero ..
theorem zx {α : Type} (x : α) (xs : List α) (i : Nat) (a : α) : (x :: xs).set (i + 1) a = x :: xs.set i a := List.set_cons_succ ..
theorem qzl {α : Type} (a : α) (l : List α) : (a :: l).length = l.length + 1 := List.length_cons
theorem qzn {α : Type} : ([] : List α).length = 0 := List.length_nil
theorem qza {α : Type} (l : List α) : l.toArray.size = l.length := List.size_toArray
end Go.Proofs.Ytecljchifebljaa
namespace Go.Proofs.Ytecljchifebljaa
open Go Go.RowKit
theorem qtk {P : Program} {md : Region.Mode} {ops : Array Oper} {Q : Exit → Act → World → Prop} {S : World → Prop} {i : Nat} {oi : Oper} {v : Value} {fuel : Nat} {listed : Array Bool} {a : Act} {w : World} (hi : ops[i]? = some oi)
  (hw : Region.wanted oi (yielded ops a.tmps) = true) (hx : ∀ w, S w → (execOp a.eval oi).run P w = .ok (.value v) w) (hS : S w)
  (h : wpAnyH P md ops Q S fuel (listed.setIfInBounds i true) (a.put oi.dst v) w)
  (hs : Region.noSelect ops = true := by kernel_rfl) (hf : Region.free md ops listed i = true := by kernel_rfl) (hr : (Region.ready md ops listed).contains i = true := by kernel_rfl)
  (hQ : ∀ c a w, Q (.panic c) (a.put oi.dst v) w → Q (.panic c) a w := by exact fun _ _ _ h => h) : wpAnyH P md ops Q S (fuel + 1) listed a w :=
 wpAnyH_take hi hs hf hr hQ (.inl ⟨hw, hx⟩) hS h
theorem qtu {P : Program} {md : Region.Mode} {ops : Array Oper} {Q : Exit → Act → World → Prop} {S : World → Prop} {i : Nat} {oi : Oper} {fuel : Nat} {listed : Array Bool} {a : Act} {w : World} (hi : ops[i]? = some oi)
  (hw : Region.wanted oi (yielded ops a.tmps) = false) (hS : S w)
  (h : wpAnyH P md ops Q S fuel (listed.setIfInBounds i true) (a.put oi.dst undef) w)
  (hs : Region.noSelect ops = true := by kernel_rfl) (hf : Region.free md ops listed i = true := by kernel_rfl) (hr : (Region.ready md ops listed).contains i = true := by kernel_rfl)
  (hQ : ∀ c a w, Q (.panic c) (a.put oi.dst undef) w → Q (.panic c) a w := by exact fun _ _ _ h => h) : wpAnyH P md ops Q S (fuel + 1) listed a w :=
 wpAnyH_take hi hs hf hr hQ (.inr ⟨hw, rfl⟩) hS h
end Go.Proofs.Ytecljchifebljaa
namespace Go.Proofs.Ytecljchifebljaa
open Go.RowKit Go.BigM

theorem right_ret (l : List UInt8) (b : Bool) (h : b = true ↔ Canon l) : Ending.returned (.bool b) = .returned (.bool (decide (Canon l))) := by
 congr 2; rw [Bool.eq_iff_iff]; simpa using h

end Go.Proofs.Ytecljchifebljaa
namespace Go.Proofs.Ytecljchifebljaa
open Go.RowKit Go.BigM

/-- How many bytes from the beginning on are of a set. -/
def rowOf (set : List UInt8) (l : List UInt8) : Nat := (l.takeWhile set.contains).length
theorem rowOf_le (set l : List UInt8) : rowOf set l ≤ l.length := by unfold rowOf; exact (List.takeWhile_prefix _).length_le
theorem rowOf_end (set : List UInt8) : ∀ (l : List UInt8) (k : Nat), k ≤ l.length → (∀ i (h : i < l.length), i < k → set.contains l[i] = true) → (∀ h : k < l.length, set.contains l[k] = false) → rowOf set l = k
 | [], k, hk, _, _ => by simp at hk; simp [rowOf, hk]
 | c :: l, 0, _, _, h => by
  have := h (by simp)
  simp only [List.getElem_cons_zero] at this
  unfold rowOf; rw [List.takeWhile_cons, this]; rfl
 | c :: l, k + 1, hk, hin, hout => by
  have h0 := hin 0 (by simp) (by omega)
  simp only [List.getElem_cons_zero] at h0
  have ih := rowOf_end set l k (by simpa using hk) (fun i h1 h2 => by have := hin (i + 1) (by simpa using h1) (by omega); simpa using this) (fun h => by have := hout (by simpa using h); simpa using this)
  unfold rowOf at ih ⊢
  rw [List.takeWhile_cons, if_pos h0, List.length_cons, ih]
/-- How many bytes from the beginning on do not count; r: within a remark. -/
def gapOf : Bool → List UInt8 → Nat
 | _, [] => 0
 | r, c :: l => if (!(c == 59 || (r && c != 10))) && !([9, 10, 32] : List UInt8).contains c then 0 else 1 + gapOf (c == 59 || (r && c != 10)) l
theorem gapOf_le : ∀ (r : Bool) (l : List UInt8), gapOf r l ≤ l.length
 | _, [] => by simp [gapOf]
 | r, c :: l => by
  unfold gapOf
  split
  ·simp
  ·have := gapOf_le (c == 59 || (r && c != 10)) l
   simp only [List.length_cons]; omega
end Go.Proofs.Ytecljchifebljaa
namespace Go.Proofs.Ytecljchifebljaa
open Go.RowKit Go.BigM

def dset : List UInt8 := [48, 49, 50, 51, 52, 53, 54, 55, 56, 57]
def sset : List UInt8 := [97, 98, 99, 100, 101, 102, 103, 104, 105, 106, 107, 108, 109, 110, 111, 112, 113, 114, 115, 116, 117, 118, 119, 120, 121, 122, 48, 49, 50, 51, 52, 53, 54, 55, 56, 57, 33, 63, 42, 60, 62, 61, 43, 45, 47, 46, 95]
/-- Digits, or the sign and digits. -/
def isNum (l : List UInt8) : Bool := decide (0 < (strip l).length) && (rowOf dset (strip l) == (strip l).length)
/-- A numeral's number's text. -/
def numOf (l : List UInt8) : List UInt8 := if (strip l).dropWhile (· == 48) = [] then [48] else if low l then 45 :: (strip l).dropWhile (· == 48) else (strip l).dropWhile (· == 48)

end Go.Proofs.Ytecljchifebljaa
namespace Go.Proofs.Ytecljchifebljaa
open Go.RowKit Go.BigM

def Z5 : Array Value := #[.int .i64 0, .string ⟨#[]⟩, .slice none 0 0, .slice none 0 0, .int .i64 0]
theorem info40 : (Try.prog.info? 29).map (·.size) = some 5 := by kernel_rfl
theorem alloc_at (w : World) (o : Obj) : (w.alloc o).heap[w.heap.size]? = some o := heap_alloc_new w o
def bAt (l t : List UInt8) : Bool := Lib.hasPrefix l t && (rowOf sset (Lib.trimPrefix l t) == 0)
/-- The #t or #f that a text begins with. -/
def boolOf (l : List UInt8) : Option ByteArray := if bAt l [35, 116] then some ⟨#[35, 116]⟩ else if bAt l [35, 102] then some ⟨#[35, 102]⟩ else none
theorem below_setRowB {B : Nat} {v w : World} (h : Below B v w) (g : Nat) (cs : Array Value) (hg : B ≤ g) : Below B v (w.setRow g cs) := by
 refine ⟨h.os, h.tape, h.output, by simpa [World.setRow] using h.size, fun k hk => ?_⟩
 rw [← h.block k hk]
 unfold World.setRow
 simp only [Array.getElem?_modify]
 rw [if_neg (by omega)]
end Go.Proofs.Ytecljchifebljaa
namespace Go.Proofs.Ytecljchifebljaa
open Go.RowKit Go.BigM

/-- The datum, no list, that a text begins with. -/
def tokOf (l : List UInt8) : Option (Int × ByteArray × Nat) :=
 if Lib.hasPrefix l [35] then (boolOf l).map (fun t => (2, t, 2))
 else if rowOf sset l = 0 then none
 else if isNum (l.take (rowOf sset l)) then (if Canon (numOf (l.take (rowOf sset l))) then some (1, ⟨(numOf (l.take (rowOf sset l))).toArray⟩, rowOf sset l) else none)
 else if 0 < rowOf dset (l.take (rowOf sset l)) then none
 else some (3, ⟨(l.take (rowOf sset l)).toArray⟩, rowOf sset l)
end Go.Proofs.Ytecljchifebljaa
namespace Go.Proofs.Ytecljchifebljaa
open Go.RowKit


/-- A datum: kind, text, marks, parts, place. -/
inductive Dt where
 | mk (k : Int) (t : ByteArray) (ms : List Int) (l : List Dt) (p : Int) : Dt

namespace Dt
def kind : Dt → Int | mk k _ _ _ _ => k
def text : Dt → ByteArray | mk _ t _ _ _ => t
def marks : Dt → List Int | mk _ _ ms _ _ => ms
def parts : Dt → List Dt | mk _ _ _ l _ => l
def place : Dt → Int | mk _ _ _ _ p => p
mutual
/-- How many data it is, with itself. -/
def size : Dt → Nat
 | mk _ _ _ l _ => 1 + sizes l
def sizes : List Dt → Nat
 | [] => 0
 | d :: l => d.size + sizes l
end
end Dt

namespace Dt
mutual
/-- Are two data the same, but for places? -/
def same : Dt → Dt → Bool
 | mk k t ms l _, mk k' t' ms' l' _ => (k == k') && ((t.toList == t'.toList) && ((ms == ms') && sames l l'))
/-- Are these, one by one? -/
def sames : List Dt → List Dt → Bool
 | [], [] => true
 | d :: l, e :: m => d.same e && sames l m
 | [], _ :: _ => false
 | _ :: _, [] => false
end
end Dt
theorem sames_len : ∀ (l m : List Dt), l.length ≠ m.length → Dt.sames l m = false
 | [], [], h => absurd rfl h
 | d :: l, e :: m, h => by
  have := sames_len l m (by simpa using h)
  simp [Dt.sames, this]
 | [], _ :: _, _ => by simp [Dt.sames]
 | _ :: _, [], _ => by simp [Dt.sames]
theorem sames_get : ∀ (l m : List Dt) (j : Nat) (h1 : j < l.length) (h2 : j < m.length), Dt.same l[j] m[j] = false → Dt.sames l m = false
 | [], _, j, h1, _, _ => by simp at h1
 | _ :: _, [], j, _, h2, _ => by simp at h2
 | d :: l, e :: m, 0, _, _, h => by
  have h' : Dt.same d e = false := h
  simp [Dt.sames, h']
 | d :: l, e :: m, j + 1, h1, h2, h => by
  have := sames_get l m j (by simpa using h1) (by simpa using h2) (by simpa using h)
  simp [Dt.sames, this]
theorem sames_all : ∀ (l m : List Dt), l.length = m.length → (∀ j (h1 : j < l.length) (h2 : j < m.length), Dt.same l[j] m[j] = true) → Dt.sames l m = true
 | [], [], _, _ => by simp [Dt.sames]
 | d :: l, e :: m, hl, h => by
  have h0 := h 0 (by simp) (by simp)
  have := sames_all l m (by simpa using hl) (fun j h1 h2 => by have := h (j + 1) (by simpa using h1) (by simpa using h2); simpa using this)
  have h0' : Dt.same d e = true := h0
  simp [Dt.sames, h0', this]
 | [], _ :: _, hl, _ => by simp at hl
 | _ :: _, [], hl, _ => by simp at hl

/-- A slice of ints that reads as ms; its block is one of S. -/
def MAt (S : Nat → Prop) (w : World) (mv : Value) (ms : List Int) : Prop :=
 (mv = .slice none 0 0 ∧ ms = []) ∨ ∃ g o cap arr fz, mv = .slice (some ⟨g, o, none⟩) ms.length cap ∧ S g ∧ w.heap[g]? = some (.cells arr 3 fz) ∧ (∀ j (h : j < ms.length), arr[o + j]? = some (.int .i64 ms[j])) ∧ ms.length ≤ 1000000000

mutual
/-- The cells cs are this datum; all blocks that it leads to are some of S. -/
def Dt.At (S : Nat → Prop) (w : World) : Dt → Array Value → Prop
 | .mk k t ms l p, cs => ∃ mv lv, cs = #[.int .i64 k, .string t, mv, lv, .int .i64 p] ∧ MAt S w mv ms ∧
   ((lv = .slice none 0 0 ∧ l = []) ∨ ∃ g o cap arr fz, lv = .slice (some ⟨g, o, none⟩) l.length cap ∧ S g ∧ w.heap[g]? = some (.cells arr 29 fz) ∧ Dts.At S w l arr o ∧ l.length ≤ cap)
/-- From place o on the cells of a row are these data, one behind the other. -/
def Dts.At (S : Nat → Prop) (w : World) : List Dt → Array Value → Nat → Prop
 | [], _, _ => True
 | d :: l, arr, o => (∃ cs, (∀ i, i < 5 → arr[o + i]? = cs[i]?) ∧ Dt.At S w d cs) ∧ Dts.At S w l arr (o + 5)
end
/-- A slice of data that reads as l. -/
def LAt (S : Nat → Prop) (w : World) (lv : Value) (l : List Dt) : Prop :=
 (lv = .slice none 0 0 ∧ l = []) ∨ ∃ g o cap arr fz, lv = .slice (some ⟨g, o, none⟩) l.length cap ∧ S g ∧ w.heap[g]? = some (.cells arr 29 fz) ∧ Dts.At S w l arr o ∧ l.length ≤ cap
theorem At_mk (S : Nat → Prop) (w : World) (k : Int) (t : ByteArray) (ms : List Int) (l : List Dt) (p : Int) (cs : Array Value) :
  Dt.At S w (.mk k t ms l p) cs ↔ ∃ mv lv, cs = #[.int .i64 k, .string t, mv, lv, .int .i64 p] ∧ MAt S w mv ms ∧ LAt S w lv l := by
 unfold Dt.At LAt; rfl

/-- Rows of data and of numbers stand. -/
def Keeps (S : Nat → Prop) (w w' : World) : Prop := ∀ g c T fz, S g → w.heap[g]? = some (.cells c T fz) → (T = 29 ∨ T = 3) → ∃ fz', w'.heap[g]? = some (.cells c T fz')
theorem Keeps.of_below {S : Nat → Prop} {w w' : World} (h : Below w.heap.size w w') : Keeps S w w' := by
 intro g c T fz _ hg _
 have hlt : g < w.heap.size := (Array.getElem?_eq_some_iff.1 hg).1
 exact ⟨fz, by rw [h.block g hlt]; exact hg⟩
theorem MAt.keeps {S : Nat → Prop} {w w' : World} {mv : Value} {ms : List Int} (h : MAt S w mv ms) (k : Keeps S w w') : MAt S w' mv ms := by
 rcases h with h | ⟨g, o, cap, arr, fz, h1, h2, h3, h4⟩
 ·exact .inl h
 ·obtain ⟨fz', h5⟩ := k g arr 3 fz h2 h3 (.inr rfl)
  exact .inr ⟨g, o, cap, arr, fz', h1, h2, h5, h4⟩
theorem MAt.mono {S T : Nat → Prop} {w : World} {mv : Value} {ms : List Int} (h : MAt S w mv ms) (k : ∀ g, S g → T g) : MAt T w mv ms := by
 rcases h with h | ⟨g, o, cap, arr, fz, h1, h2, h3, h4⟩
 ·exact .inl h
 ·exact .inr ⟨g, o, cap, arr, fz, h1, k g h2, h3, h4⟩
mutual
theorem Dt.At.keeps {S : Nat → Prop} {w w' : World} (k : Keeps S w w') : ∀ (d : Dt) (cs : Array Value), Dt.At S w d cs → Dt.At S w' d cs
 | .mk _ _ ms l _, cs, h => by
  rw [At_mk] at h ⊢
  obtain ⟨mv, lv, e, hm, hl⟩ := h
  refine ⟨mv, lv, e, hm.keeps k, ?_⟩
  rcases hl with hl | ⟨g, o, cap, arr, fz, h1, h2, h3, h4⟩
  ·exact .inl hl
  ·obtain ⟨fz', h5⟩ := k g arr 29 fz h2 h3 (.inl rfl)
   exact .inr ⟨g, o, cap, arr, fz', h1, h2, h5, Dts.At.keeps k l arr o h4.1, h4.2⟩
theorem Dts.At.keeps {S : Nat → Prop} {w w' : World} (k : Keeps S w w') : ∀ (l : List Dt) (arr : Array Value) (o : Nat), Dts.At S w l arr o → Dts.At S w' l arr o
 | [], _, _, _ => by unfold Dts.At; trivial
 | d :: l, arr, o, h => by
  unfold Dts.At at h ⊢
  obtain ⟨⟨cs, hc, hd⟩, hr⟩ := h
  exact ⟨⟨cs, hc, Dt.At.keeps k d cs hd⟩, Dts.At.keeps k l arr (o + 5) hr⟩
end
mutual
theorem Dt.At.mono {S T : Nat → Prop} {w : World} (k : ∀ g, S g → T g) : ∀ (d : Dt) (cs : Array Value), Dt.At S w d cs → Dt.At T w d cs
 | .mk _ _ ms l _, cs, h => by
  rw [At_mk] at h ⊢
  obtain ⟨mv, lv, e, hm, hl⟩ := h
  refine ⟨mv, lv, e, hm.mono k, ?_⟩
  rcases hl with hl | ⟨g, o, cap, arr, fz, h1, h2, h3, h4⟩
  ·exact .inl hl
  ·exact .inr ⟨g, o, cap, arr, fz, h1, k g h2, h3, Dts.At.mono k l arr o h4.1, h4.2⟩
theorem Dts.At.mono {S T : Nat → Prop} {w : World} (k : ∀ g, S g → T g) : ∀ (l : List Dt) (arr : Array Value) (o : Nat), Dts.At S w l arr o → Dts.At T w l arr o
 | [], _, _, _ => by unfold Dts.At; trivial
 | d :: l, arr, o, h => by
  unfold Dts.At at h ⊢
  obtain ⟨⟨cs, hc, hd⟩, hr⟩ := h
  exact ⟨⟨cs, hc, Dt.At.mono k d cs hd⟩, Dts.At.mono k l arr (o + 5) hr⟩
end
theorem LAt.keeps {S : Nat → Prop} {w w' : World} {lv : Value} {l : List Dt} (h : LAt S w lv l) (k : Keeps S w w') : LAt S w' lv l := by
 rcases h with h | ⟨g, o, cap, arr, fz, h1, h2, h3, h4⟩
 ·exact .inl h
 ·obtain ⟨fz', h5⟩ := k g arr 29 fz h2 h3 (.inl rfl)
  exact .inr ⟨g, o, cap, arr, fz', h1, h2, h5, Dts.At.keeps k l arr o h4.1, h4.2⟩
theorem LAt.mono {S T : Nat → Prop} {w : World} {lv : Value} {l : List Dt} (h : LAt S w lv l) (k : ∀ g, S g → T g) : LAt T w lv l := by
 rcases h with h | ⟨g, o, cap, arr, fz, h1, h2, h3, h4⟩
 ·exact .inl h
 ·exact .inr ⟨g, o, cap, arr, fz, h1, k g h2, h3, Dts.At.mono k l arr o h4.1, h4.2⟩
/-- The part at a place. -/
theorem Dts.At.get {S : Nat → Prop} {w : World} : ∀ (l : List Dt) (arr : Array Value) (o : Nat), Dts.At S w l arr o → ∀ j (h : j < l.length), ∃ cs, (∀ i, i < 5 → arr[o + 5 * j + i]? = cs[i]?) ∧ Dt.At S w l[j] cs
 | [], _, _, _, j, h => by simp at h
 | d :: l, arr, o, H, j, h => by
  unfold Dts.At at H
  cases j with
  | zero => simpa using H.1
  | succ j =>
   obtain ⟨cs, h1, h2⟩ := Dts.At.get l arr (o + 5) H.2 j (by simpa using h)
   exact ⟨cs, fun i hi => by rw [← h1 i hi]; congr 1; omega, h2⟩
theorem MAt.short {S : Nat → Prop} {w : World} {mv : Value} {ms : List Int} (h : MAt S w mv ms) : ms.length ≤ 1000000000 := by
 rcases h with ⟨_, rfl⟩ | ⟨g, o, cap, arr, fz, _, _, _, _, h⟩
 ·simp
 ·exact h
theorem MAt.one {S : Nat → Prop} {w : World} {mv : Value} {ms : List Int} (h : MAt S w mv ms) : mv.oneCell' = true := by
 rcases h with ⟨rfl, _⟩ | ⟨g, o, cap, arr, fz, rfl, _⟩ <;> rfl
theorem LAt.cap {S : Nat → Prop} {w : World} {ao : Option Addr} {n cap : Nat} {l : List Dt} (h : LAt S w (.slice ao n cap) l) : n = l.length ∧ l.length ≤ cap := by
 rcases h with ⟨e, rfl⟩ | ⟨g, o, cap', arr, fz, e, hS, hg, hd, hc⟩
 ·injection e with _ e1 e2; subst e1; subst e2; exact ⟨rfl, Nat.le_refl _⟩
 ·injection e with _ e1 e2; subst e1; subst e2; exact ⟨rfl, hc⟩
theorem LAt.one {S : Nat → Prop} {w : World} {lv : Value} {l : List Dt} (h : LAt S w lv l) : lv.oneCell' = true := by
 rcases h with ⟨rfl, _⟩ | ⟨g, o, cap, arr, fz, rfl, _⟩ <;> rfl
theorem size_get : ∀ (l : List Dt) (j : Nat) (h : j < l.length), l[j].size ≤ Dt.sizes l
 | [], j, h => by simp at h
 | d :: l, 0, _ => by simp [Dt.sizes]
 | d :: l, j + 1, h => by
  have := size_get l j (by simpa using h)
  simp only [Dt.sizes, List.getElem_cons_succ]; omega

theorem setRow_new (w : World) (z cs : Array Value) (T : TypeId) : (w.alloc (.cells z T)).setRow w.heap.size cs = w.alloc (.cells cs T) := by
 unfold World.setRow World.alloc
 simp only [World.mk.injEq, and_true]
 apply Array.ext
 ·simp
 ·intro k h1 h2
  simp only [Array.getElem_modify]
  split
  ·rename_i hk; subst hk; simp
  ·rename_i hk
   simp only [Array.getElem_push]
   split
   ·rfl
   ·rename_i h3
    simp at h1
    omega
theorem LAt.form {S : Nat → Prop} {w : World} {lv : Value} {l : List Dt} (h : LAt S w lv l) : ∃ ao cap, lv = .slice ao l.length cap := by
 rcases h with ⟨rfl, rfl⟩ | ⟨g, o, cap, arr, fz, rfl, _⟩
 ·exact ⟨none, 0, rfl⟩
 ·exact ⟨_, _, rfl⟩
/-- The cells of the part at a place. -/
theorem LAt.get {S : Nat → Prop} {w : World} {ao : Option Addr} {n cap : Nat} {l : List Dt} (h : LAt S w (.slice ao n cap) l) (j : Nat) (hj : j < l.length) :
  ∃ g o k t mv lv p, ao = some ⟨g, o, none⟩ ∧ S g ∧ (∃ c fz, w.heap[g]? = some (.cells c 29 fz)) ∧ Dt.At S w l[j] #[.int .i64 k, .string t, mv, lv, .int .i64 p] ∧
   w.cell? ⟨g, o + j * 5, none⟩ = some (.int .i64 k) ∧ w.cell? ⟨g, o + j * 5 + 1, none⟩ = some (.string t) ∧ w.cell? ⟨g, o + j * 5 + 2, none⟩ = some mv ∧
   w.cell? ⟨g, o + j * 5 + 3, none⟩ = some lv ∧ w.cell? ⟨g, o + j * 5 + 4, none⟩ = some (.int .i64 p) ∧ mv.oneCell' = true ∧ lv.oneCell' = true := by
 rcases h with ⟨_, rfl⟩ | ⟨g, o, cap', arr, fz, e, hS, hg, hd, _⟩
 ·simp at hj
 ·injection e with e1 e2 e3
  subst e1
  obtain ⟨cs, hc, hat⟩ := Dts.At.get l arr o hd j hj
  generalize hd' : l[j] = d at hat
  obtain ⟨k, t, ms, lst, p⟩ := d
  have hat' := hat
  rw [At_mk] at hat'
  obtain ⟨mv, lv, rfl, hm, hl⟩ := hat'
  refine ⟨g, o, k, t, mv, lv, p, rfl, hS, ⟨arr, fz, hg⟩, hat, ?_, ?_, ?_, ?_, ?_, hm.one, hl.one⟩
  ·rw [Lib.cell_of_heap hg]; rw [Nat.mul_comm]; exact hc 0 (by decide)
  ·rw [Lib.cell_of_heap hg, Nat.mul_comm]; exact hc 1 (by decide)
  ·rw [Lib.cell_of_heap hg, Nat.mul_comm]; exact hc 2 (by decide)
  ·rw [Lib.cell_of_heap hg, Nat.mul_comm]; exact hc 3 (by decide)
  ·rw [Lib.cell_of_heap hg, Nat.mul_comm]; exact hc 4 (by decide)

theorem length_sizes : ∀ (l : List Dt), l.length ≤ Dt.sizes l
 | [] => by simp
 | d :: l => by
  have h1 := length_sizes l
  have h2 : 1 ≤ d.size := by cases d; simp only [Dt.size]; omega
  simp only [List.length_cons, Dt.sizes]; omega
/-- Blocks that a datum leads to are there. -/
theorem MAt.bound {S : Nat → Prop} {w : World} {mv : Value} {ms : List Int} (h : MAt S w mv ms) : MAt (fun g => S g ∧ g < w.heap.size) w mv ms := by
 rcases h with h | ⟨g, o, cap, arr, fz, h1, h2, h3, h4⟩
 ·exact .inl h
 ·exact .inr ⟨g, o, cap, arr, fz, h1, ⟨h2, (Array.getElem?_eq_some_iff.1 h3).1⟩, h3, h4⟩
mutual
theorem Dt.At.bound {S : Nat → Prop} {w : World} : ∀ (d : Dt) (cs : Array Value), Dt.At S w d cs → Dt.At (fun g => S g ∧ g < w.heap.size) w d cs
 | .mk _ _ ms l _, cs, h => by
  rw [At_mk] at h ⊢
  obtain ⟨mv, lv, e, hm, hl⟩ := h
  refine ⟨mv, lv, e, hm.bound, ?_⟩
  rcases hl with hl | ⟨g, o, cap, arr, fz, h1, h2, h3, h4⟩
  ·exact .inl hl
  ·exact .inr ⟨g, o, cap, arr, fz, h1, ⟨h2, (Array.getElem?_eq_some_iff.1 h3).1⟩, h3, Dts.At.bound l arr o h4.1, h4.2⟩
theorem Dts.At.bound {S : Nat → Prop} {w : World} : ∀ (l : List Dt) (arr : Array Value) (o : Nat), Dts.At S w l arr o → Dts.At (fun g => S g ∧ g < w.heap.size) w l arr o
 | [], _, _, _ => by unfold Dts.At; trivial
 | d :: l, arr, o, h => by
  unfold Dts.At at h ⊢
  obtain ⟨⟨cs, hc, hd⟩, hr⟩ := h
  exact ⟨⟨cs, hc, Dt.At.bound d cs hd⟩, Dts.At.bound l arr (o + 5) hr⟩
end
theorem Dts.At.of_get {S : Nat → Prop} {w : World} : ∀ (l : List Dt) (arr : Array Value) (o : Nat), (∀ j (h : j < l.length), ∃ cs, (∀ i, i < 5 → arr[o + 5 * j + i]? = cs[i]?) ∧ Dt.At S w l[j] cs) → Dts.At S w l arr o
 | [], _, _, _ => by unfold Dts.At; trivial
 | d :: l, arr, o, H => by
  unfold Dts.At
  refine ⟨?_, Dts.At.of_get l arr (o + 5) fun j h => ?_⟩
  ·have := H 0 (by simp)
   simpa using this
  ·obtain ⟨cs, h1, h2⟩ := H (j + 1) (by simpa using h)
   exact ⟨cs, fun i hi => by rw [← h1 i hi]; congr 1; omega, by simpa using h2⟩

/-- A row of data that the call owns (from block B on): v leads to it; the data's own blocks are others. -/
def OwnD (B : Nat) (w : World) (v : Value) (ds : List Dt) : Prop :=
 ∃ xs, w.ownsRow B 29 5 v ds.length xs ∧ ∀ j (h : j < ds.length), ∃ cs : Array Value, cs.size = 5 ∧ (∀ i, i < 5 → xs[5 * j + i]? = cs[i]?) ∧ Dt.At (fun g => B ≤ g ∧ v.ownBlock ≠ some g) w ds[j] cs
theorem OwnD.nil (B : Nat) (w : World) : OwnD B w (.slice none 0 0) [] := ⟨[], World.ownsRow_nil _ _ _ _, fun j h => by simp at h⟩
/-- It reads as a slice of these. -/
theorem OwnD.at {B : Nat} {w : World} {v : Value} {ds : List Dt} (h : OwnD B w v ds) : LAt (fun g => B ≤ g) w v ds := by
 obtain ⟨xs, hown, hd⟩ := h
 rcases hown.2 with ⟨rfl, hz⟩ | ⟨g, cap, cur, rfl, hbg, hg, hnc, hcm, hcs, htake⟩
 ·exact .inl ⟨rfl, List.length_eq_zero_iff.1 hz⟩
 ·refine .inr ⟨g, 0, cap, cur, (0, 0), rfl, hbg, hg, Dts.At.of_get _ _ _ (fun j hj => ?_), hnc⟩
  obtain ⟨cs, h5, h1, h2⟩ := hd j hj
  refine ⟨cs, fun i hi => ?_, Dt.At.mono (fun g h => h.1) _ _ h2⟩
  rw [← h1 i hi, ← htake, List.getElem?_take, if_pos (by omega)]
  simp
/-- What a world that grows by one row keeps. -/
theorem Keeps.of_grown {S : Nat → Prop} {w w' : World} {row : Option Nat} (h : w.grownBy w' row) (hS : ∀ g, S g → some g ≠ row) : Keeps S w w' := by
 intro g c T fz hs hg _
 exact ⟨fz, by rw [h.block g (Array.getElem?_eq_some_iff.1 hg).1 (hS g hs)]; exact hg⟩
/-- One datum more at the row's end. -/
theorem OwnD.snoc {B : Nat} {w w' : World} {v v' : Value} {ds : List Dt} {xs : List Value} {d : Dt} {cs : Array Value} (hx : ∀ j (h : j < ds.length), ∃ cs : Array Value, cs.size = 5 ∧ (∀ i, i < 5 → xs[5 * j + i]? = cs[i]?) ∧ Dt.At (fun g => B ≤ g ∧ v.ownBlock ≠ some g) w ds[j] cs)
  (hl : xs.length = ds.length * 5) (h5 : cs.size = 5) (hd : Dt.At (fun g => B ≤ g ∧ v.ownBlock ≠ some g) w d cs)
  (hown : w'.ownsRow B 29 5 v' (ds.length + 1) (xs ++ cs.toList)) (hg : w.grownBy w' v.ownBlock) (hv : v'.ownBlock = v.ownBlock ∨ v'.ownBlock = some w.heap.size) : OwnD B w' v' (ds ++ [d]) := by
 have key : ∀ (d : Dt) (cs : Array Value), Dt.At (fun g => B ≤ g ∧ v.ownBlock ≠ some g) w d cs → Dt.At (fun g => B ≤ g ∧ v'.ownBlock ≠ some g) w' d cs := by
  intro d cs h
  have h1 := Dt.At.bound d cs h
  have h2 := Dt.At.keeps (Keeps.of_grown hg (S := fun g => (B ≤ g ∧ v.ownBlock ≠ some g) ∧ g < w.heap.size) (fun g hs e => hs.1.2 e.symm)) d cs h1
  refine Dt.At.mono (fun g hs => ⟨hs.1.1, ?_⟩) d cs h2
  rcases hv with e | e
  ·rw [e]; exact hs.1.2
  ·rw [e]; intro e2; injection e2 with e2; omega
 refine ⟨xs ++ cs.toList, by simpa using hown, fun j hj => ?_⟩
 by_cases hlt : j < ds.length
 ·obtain ⟨c, c5, c1, c2⟩ := hx j hlt
  refine ⟨c, c5, fun i hi => ?_, ?_⟩
  ·rw [List.getElem?_append_left (by omega)]; exact c1 i hi
  ·rw [List.getElem_append_left hlt]; exact key _ _ c2
 ·have hj' : j = ds.length := by simp at hj; omega
  subst hj'
  refine ⟨cs, h5, fun i hi => ?_, ?_⟩
  ·rw [List.getElem?_append_right (by omega), show 5 * ds.length + i - xs.length = i by omega]; simp
  ·rw [List.getElem_append_right (by omega)]
   simp
   exact key _ _ hd


theorem infoD : (Try.prog.info? 29).map (fun i => (i.zero, i.size, i.bytes)) = some (some (.agg Z5), 5, 80) := by kernel_rfl

theorem run_app (w : World) (B ty : Nat) (v : Value) (n : Nat) (xs : List Value) (hown : w.ownsRow B 29 5 v n xs) (g0 c : Nat) (news : List Value) (hl : news.length = 5)
  (hnews : ∀ j u, news[j]? = some u → w.cell? ⟨g0, j, none⟩ = some u) (h1 : ∀ u ∈ news, u.oneCell' = true) (hn : n + 1 ≤ 1000000000) (hB : B ≤ w.heap.size) :
  ∃ v' w', (Builtin.append_ #[25, 25] ty #[v, .slice (some ⟨g0, 0, none⟩) 1 c]).run Try.prog w = .ok v' w' ∧ w'.ownsRow B 29 5 v' (n + 1) (xs ++ news) ∧ w.grownBy w' v.ownBlock ∧ (v'.ownBlock = v.ownBlock ∨ v'.ownBlock = some w.heap.size) := by
 obtain ⟨i, hi, hz, hs, hb⟩ := info_parts infoD
 have hnews' : ∀ j u, news[j]? = some u → w.cell? ((⟨g0, 0, none⟩ : Addr).add j) = some u := by
  intro j u hu
  have e : (⟨g0, 0, none⟩ : Addr).add j = ⟨g0, j, none⟩ := by unfold Addr.add; split <;> simp_all
  rw [e]; exact hnews j u hu
 have hl1 : news.length = 1 * 5 := by omega
 obtain ⟨v', w', hr, h2, h3, _⟩ := run_append_own (P := Try.prog) w B 25 ty 29 i (.agg Z5) 5 80 Try.underlying25 hi hz hs hb rfl (by decide) v n xs hown ⟨g0, 0, none⟩ 1 c news hl1 hnews' h1 (by unfold maxLen; omega) (by omega) hB
 refine ⟨v', w', hr, h2, h3, ?_⟩
 have hl2 : news.length = 1 * i.size := by rw [hs]; exact hl1
 rcases hown.2 with ⟨rfl, rfl⟩ | ⟨g, cap, cur, rfl, hbg, hg, hnc, hcm, hcs, htake⟩
 ·have hr2 := run_append_nil (P := Try.prog) w 25 ty 29 i (.agg Z5) Try.underlying25 hi hz ⟨g0, 0, none⟩ 1 c news hl2 hnews' (by decide) (by decide) (by rw [hb]; decide)
  rw [hr] at hr2
  injection hr2 with e1 e2
  right; rw [e1]; rfl
 ·by_cases hroom : n + 1 ≤ cap
  ·have hfit : n * i.size + news.length ≤ cur.size := by rw [hs, hl, hcs]; omega
   have hr2 := run_append_room (P := Try.prog) w 25 ty 29 i Try.underlying25 hi g n cap cur hg ⟨g0, 0, none⟩ 1 c news hl2 hnews' h1 hroom hfit
   rw [hr] at hr2
   injection hr2 with e1 e2
   left; rw [e1]; rfl
  ·have hlo : xs.length = n * i.size := by rw [hs]; exact hown.1
   have hr2 := run_append_grow (P := Try.prog) w 25 ty 29 i (.agg Z5) Try.underlying25 hi hz ⟨g, 0, none⟩ n cap xs hlo (hown.cells (g := g) rfl) ⟨g0, 0, none⟩ 1 c news hl2 hnews' (by omega) (by omega) (growslice_fits (by omega) (by rw [hb]; omega))
   rw [hr] at hr2
   injection hr2 with e1 e2
   right; rw [e1]; rfl

theorem wp_app {o : Oper} {a : Act} {w : World} {K : Act → World → Prop} {Q : Exit → Act → World → Prop} (s x : Operand)
  (ho : o.op = .call { callee := .builtin .append, args := #[s, x], argTypes := #[25, 25] }) (B : Nat) (v : Value) (n : Nat) (xs : List Value) (hs : a.eval s = v) (hown : w.ownsRow B 29 5 v n xs)
  (g0 c : Nat) (hx : a.eval x = .slice (some ⟨g0, 0, none⟩) 1 c) (news : List Value) (hl : news.length = 5)
  (hnews : ∀ j u, news[j]? = some u → w.cell? ⟨g0, j, none⟩ = some u) (h1 : ∀ u ∈ news, u.oneCell' = true) (hn : n + 1 ≤ 1000000000) (hB : B ≤ w.heap.size)
  (h : ∀ v' w', w'.ownsRow B 29 5 v' (n + 1) (xs ++ news) → w.grownBy w' v.ownBlock → (v'.ownBlock = v.ownBlock ∨ v'.ownBlock = some w.heap.size) → K (a.put o.dst v') w') : o.wp Try.prog a w K Q := by
 obtain ⟨v', w', hr, h2, h3, h4⟩ := run_app w B o.type v n xs hown g0 c news hl hnews h1 hn hB
 unfold Oper.wp execOp
 simp only [ho, resolve, invoke, builtin, Sem.run_bind, Sem.run_pure, Result.andThen_ok, List.map_toArray, List.map_cons, List.map_nil, hs, hx, hr]
 exact h v' w' h2 h3 h4
theorem Below.grownRow {w w' : World} (h : Below w.heap.size w w') (row : Option Nat) : w.grownBy w' row := ⟨h.os, h.tape, h.output, h.size, fun k hk _ => h.block k hk⟩
theorem OwnD.below {B : Nat} {w w' : World} {v : Value} {ds : List Dt} (h : OwnD B w v ds) (hb : Below w.heap.size w w') : OwnD B w' v ds := by
 obtain ⟨xs, hown, hd⟩ := h
 refine ⟨xs, hown.kept (Below.grownRow hb none) ?_, fun j hj => ?_⟩
 ·cases v.ownBlock <;> simp
 ·obtain ⟨cs, h5, h1, h2⟩ := hd j hj
  exact ⟨cs, h5, h1, Dt.At.keeps (Keeps.of_below hb) _ _ h2⟩
theorem OwnD.setCell {B : Nat} {w : World} {v : Value} {ds : List Dt} (h : OwnD B w v ds) {a : Addr} (ha : a.block < B) (u : Value) : OwnD B (w.setCell a u) v ds := by
 obtain ⟨xs, hown, hd⟩ := h
 refine ⟨xs, ownsRow_setCell_below hown ha u, fun j hj => ?_⟩
 obtain ⟨cs, h5, h1, h2⟩ := hd j hj
 refine ⟨cs, h5, h1, Dt.At.keeps ?_ _ _ h2⟩
 intro g c T fz hs hg _
 have : B ≤ g := hs.1
 exact ⟨fz, by rw [heap_setCell_other w a g u (by omega)]; exact hg⟩
theorem At_form {S : Nat → Prop} {w : World} {d : Dt} {cs : Array Value} (h : Dt.At S w d cs) : ∃ k t mv lv p, cs = #[.int .i64 k, .string t, mv, lv, .int .i64 p] ∧ mv.oneCell' = true ∧ lv.oneCell' = true := by
 obtain ⟨k, t, ms, l, p⟩ := d
 rw [At_mk] at h
 obtain ⟨mv, lv, e, hm, hl⟩ := h
 exact ⟨k, t, mv, lv, p, e, hm.one, hl.one⟩
theorem setRow_new_at (A : World) (z cs : Array Value) (T : TypeId) (m : Nat) (h : A.heap.size = m) : (A.alloc (.cells z T)).setRow m cs = A.alloc (.cells cs T) := by
 subst h; exact setRow_new A z cs T
theorem own_form {w : World} {B ty sz n : Nat} {v : Value} {xs : List Value} (h : w.ownsRow B ty sz v n xs) : ∃ ao m c, v = .slice ao m c := by
 rcases h.2 with ⟨rfl, _⟩ | ⟨g, cap, cur, rfl, _⟩
 ·exact ⟨_, _, _, rfl⟩
 ·exact ⟨_, _, _, rfl⟩
/-- A round of Make's loop. -/
theorem all_more {ds : List Dt} {B : Nat} {wr w7 : World} {v : Value} {d : Dt} (hown : OwnD B wr v ds) (hl : ds.length ≤ 1000000) (hB : B ≤ wr.heap.size)
  {cs : Array Value} (hat : Dt.At (fun g => wr.heap.size ≤ g) w7 d cs) (hb : Below wr.heap.size wr w7) (h5 : cs.size = 5) :
  ∃ xs, (w7.alloc (.cells cs 29)).ownsRow B 29 5 v ds.length xs ∧ B ≤ (w7.alloc (.cells cs 29)).heap.size ∧ ∀ v' w9, w9.ownsRow B 29 5 v' (ds.length + 1) (xs ++ cs.toList) → (w7.alloc (.cells cs 29)).grownBy w9 v.ownBlock →
   (v'.ownBlock = v.ownBlock ∨ v'.ownBlock = some (w7.alloc (.cells cs 29)).heap.size) → Below B wr w9 ∧ OwnD B w9 v' (ds ++ [d]) := by
 have hs7 := hb.size
 have hb8 : Below wr.heap.size wr (w7.alloc (.cells cs 29)) := hb.alloc hb.size _
 obtain ⟨xs, hown8, hx8⟩ := OwnD.below hown hb8
 have hvl : ∀ k, v.ownBlock = some k → B ≤ k ∧ k < wr.heap.size := by
  obtain ⟨ys, ho, _⟩ := hown
  exact ho.lt
 have hz8 : (w7.alloc (.cells cs 29)).heap.size = w7.heap.size + 1 := by simp
 refine ⟨xs, hown8, by rw [hz8]; omega, fun v' w9 hown9 hg9 hv9 => ?_⟩
 refine ⟨(hb8.mono hB).grown hg9 (by rw [hz8]; omega) (fun k hk => (hvl k hk).1), ?_⟩
 have hlx : xs.length = ds.length * 5 := hown8.1
 refine OwnD.snoc hx8 hlx h5 ?_ hown9 hg9 hv9
 have h1 := Dt.At.bound d cs hat
 have h2 := Dt.At.keeps (Keeps.of_below ((Below.refl w7.heap.size w7).alloc (Nat.le_refl _) (.cells cs 29))) d cs h1
 refine Dt.At.mono (fun g hg => ⟨?_, ?_⟩) d cs h2
 ·have : wr.heap.size ≤ g := hg.1; omega
 ·intro e
  have := (hvl g e).2
  have : wr.heap.size ≤ g := hg.1
  omega
theorem At_one {S : Nat → Prop} {w : World} {d : Dt} {k : Int} {t : ByteArray} {mv lv : Value} {p : Int} (h : Dt.At S w d #[.int .i64 k, .string t, mv, lv, .int .i64 p]) : mv.oneCell' = true ∧ lv.oneCell' = true := by
 obtain ⟨k', t', mv', lv', p', e, h1, h2⟩ := At_form h
 simp at e
 obtain ⟨_, _, rfl, rfl, _⟩ := e
 exact ⟨h1, h2⟩
theorem OwnD.lt {B : Nat} {w : World} {v : Value} {ds : List Dt} (h : OwnD B w v ds) {k : Nat} (hk : v.ownBlock = some k) : B ≤ k ∧ k < w.heap.size := by
 obtain ⟨xs, hown, _⟩ := h
 exact hown.lt k hk
/-- As OwnD; the parts lie in blocks of S. -/
def OwnS (S : Nat → Prop) (B : Nat) (w : World) (v : Value) (ds : List Dt) : Prop :=
 ∃ xs, w.ownsRow B 29 5 v ds.length xs ∧ ∀ j (h : j < ds.length), ∃ cs : Array Value, cs.size = 5 ∧ (∀ i, i < 5 → xs[5 * j + i]? = cs[i]?) ∧ Dt.At S w ds[j] cs
theorem OwnS.nil (S : Nat → Prop) (B : Nat) (w : World) : OwnS S B w (.slice none 0 0) [] := ⟨[], World.ownsRow_nil _ _ _ _, fun j h => by simp at h⟩
end Go.Proofs.Ytecljchifebljaa
namespace Go.Proofs.Ytecljchifebljaa
open Go.RowKit
def RetBool (b : Bool) (w : World) (e : Ending) (w' : World) : Prop := e = .returned (.bool b) ∧ Below w.heap.size w w'
def dT : ByteArray := ⟨#[46, 46, 46]⟩
/-- Is it a symbol of that text? -/
def Dt.isS (s : ByteArray) (d : Dt) : Bool := (d.kind == 3) && (d.text.toList == s.toList)
def Dt.dots (d : Dt) : Bool := d.isS dT
theorem is_any (k : Int) (t s : ByteArray) (mv lv : Value) (p : Int) (b1 b2 : Bool) (h1 : (k == 3) = b1) (h2 : (t.toList == s.toList) = b2) (hm : mv.oneCell' = true) (hl : lv.oneCell' = true) (w : World) :
  Calls Try.prog 77 #[.agg #[.int .i64 k, .string t, mv, lv, .int .i64 p], .string s] w (RetBool (b1 && b2) w) := by
 cases b1
 ·go_enter Try.func77, Try.ntmps77
  go_wp2
  go_ret
  exact ⟨rfl, (Below.refl _ _).alloc (Nat.le_refl _) _⟩
 ·go_enter Try.func77, Try.ntmps77
  go_wp2
  go_ret
  exact ⟨rfl, (Below.refl _ _).alloc (Nat.le_refl _) _⟩
theorem At_five {S : Nat → Prop} {w : World} {d : Dt} {cs : Array Value} (h : Dt.At S w d cs) : ∃ mv lv, cs = #[.int .i64 d.kind, .string d.text, mv, lv, .int .i64 d.place] ∧ mv.oneCell' = true ∧ lv.oneCell' = true := by
 obtain ⟨k, t, ms, l, p⟩ := d
 rw [At_mk] at h
 obtain ⟨mv, lv, e, hm, hl⟩ := h
 exact ⟨mv, lv, e, hm.one, hl.one⟩
theorem is_dt {S : Nat → Prop} {w : World} {d : Dt} {cs : Array Value} (h : Dt.At S w d cs) (s : ByteArray) (W : World) : Calls Try.prog 77 #[.agg cs, .string s] W (RetBool (d.isS s) W) := by
 obtain ⟨mv, lv, rfl, h1, h2⟩ := At_five h
 exact is_any _ _ s _ _ _ _ _ rfl rfl h1 h2 W
theorem isdots_any {S : Nat → Prop} {w : World} {d : Dt} {cs : Array Value} (h : Dt.At S w d cs) (W : World) : Calls Try.prog 66 #[.agg cs] W (RetBool d.dots W) := by
 have FI := Lib.hid (fun W => is_dt h dT W)
 obtain ⟨mv, lv, rfl, h1, h2⟩ := At_five h
 obtain ⟨k, hk⟩ : ∃ k, k = d.kind := ⟨_, rfl⟩
 obtain ⟨t, ht⟩ : ∃ k, k = d.text := ⟨_, rfl⟩
 obtain ⟨p, hp⟩ : ∃ k, k = d.place := ⟨_, rfl⟩
 rw [← hk, ← ht, ← hp] at FI ⊢
 have HB := Lib.hid ((Below.refl W.heap.size W).alloc (Nat.le_refl _) (.cells #[.int .i64 k, .string t, mv, lv, .int .i64 p] 29))
 have hx := alloc_at W (.cells #[.int .i64 k, .string t, mv, lv, .int .i64 p] 29)
 clear hk ht hp h
 go_enter Try.func66, Try.ntmps66
 go_wp2_with (refine wpList_load_row rfl 29 _ rfl W.heap.size rfl 29 #[.int .i64 k, .string t, mv, lv, .int .i64 p] (0, 0) _ hx Try.underlying29 rfl info40 ?_)
 refine (FI.out _).mono ?_
 rintro e w2 ⟨rfl, hb⟩
 have HB2 := Lib.hid (HB.out.trans (hb.mono HB.out.size))
 clear hb
 go_wp2_with fail
 go_ret
 exact ⟨rfl, HB2.out⟩
/-- Within how many dots a part stands. -/
theorem inner_any (n : Int) (b : Bool) (hn : -9000 ≤ n) (hn2 : n ≤ 9000) (w : World) : Calls Try.prog 72 #[.int .i64 n, .bool b] w fun e w' => e = .returned (.int .i64 (if b = true then n + 1 else n)) ∧ w = w' := by
 have e1 : IntKind.i64.wrap (n + 1) = n + 1 := by rw [IntKind.wrap_i64]; omega
 cases b
 ·go_enter Try.func72, Try.ntmps72
  go_wp2
  go_ret
  exact ⟨rfl, rfl⟩
 ·go_enter Try.func72, Try.ntmps72
  go_wp2
  go_ret
  exact ⟨rfl, rfl⟩
theorem within4_any (a n : Int) (w : World) (h1 : -9223372036854775808 ≤ a) (h2 : a ≤ 9223372036854775807) (h3 : 1 ≤ n) (h4 : n ≤ 4000000000) :
  Calls Try.prog 28 #[.int .i64 a, .int .i64 n] w fun e w' => e = .returned (.int .i64 (a % n)) ∧ w = w' := by
 have hr := Int.emod_nonneg a (show n ≠ 0 by omega)
 have hl := Int.emod_lt_of_pos a (show 0 < n by omega)
 by_cases h : 0 ≤ a
 ·have ht := Int.tmod_eq_emod_of_nonneg (b := n) h
  go_enter Try.func28, Try.ntmps28
  go_wp2
  go_ret
  exact ⟨rfl, rfl⟩
 ·by_cases hd : a % n = 0
  ·have ht : a.tmod n = 0 := by rw [Int.tmod_eq_emod, if_pos (Or.inr (Int.dvd_of_emod_eq_zero hd))]; omega
   go_enter Try.func28, Try.ntmps28
   go_wp2
   go_ret
   exact ⟨ret_int (by omega), rfl⟩
  ·have ht : a.tmod n = a % n - n := by
    rw [Int.tmod_eq_emod, if_neg]
    ·omega
    ·rintro (h' | h')
     ·exact h h'
     ·exact hd (Int.emod_eq_zero_of_dvd h')
   have ht2 : a % n - n < 0 := by omega
   clear hd
   go_enter Try.func28, Try.ntmps28
   go_wp2
   go_ret
   exact ⟨ret_int (by omega), rfl⟩
end Go.Proofs.Ytecljchifebljaa
namespace Go.Proofs.Ytecljchifebljaa
open Go.RowKit
/-- A slice of texts that reads as ls. -/
def LitsAt (w : World) (v : Value) (ls : List ByteArray) : Prop :=
 (v = .slice none 0 0 ∧ ls = []) ∨ ∃ g o cap arr fz, v = .slice (some ⟨g, o, none⟩) ls.length cap ∧ w.heap[g]? = some (.cells arr 9 fz) ∧ ∀ j (h : j < ls.length), arr[o + j]? = some (.string ls[j])
theorem LitsAt.form {w : World} {v : Value} {ls : List ByteArray} (h : LitsAt w v ls) : ∃ ao c, v = .slice ao ls.length c := by
 rcases h with ⟨rfl, rfl⟩ | ⟨g, o, cap, arr, fz, rfl, _⟩
 ·exact ⟨none, 0, rfl⟩
 ·exact ⟨_, _, rfl⟩
theorem LitsAt.below {w w' : World} {v : Value} {ls : List ByteArray} (h : LitsAt w v ls) (hb : Below w.heap.size w w') : LitsAt w' v ls := by
 rcases h with h | ⟨g, o, cap, arr, fz, e, hg, hd⟩
 ·exact .inl h
 ·exact .inr ⟨g, o, cap, arr, fz, e, by rw [hb.block g (Array.getElem?_eq_some_iff.1 hg).1]; exact hg, hd⟩
theorem LitsAt.get {w : World} {ao : Option Addr} {n cap : Nat} {ls : List ByteArray} (h : LitsAt w (.slice ao n cap) ls) (j : Nat) (hj : j < ls.length) : ∃ g o, ao = some ⟨g, o, none⟩ ∧ w.cell? ⟨g, o + j, none⟩ = some (.string ls[j]) := by
 rcases h with ⟨_, rfl⟩ | ⟨g, o, cap', arr, fz, e, hg, hd⟩
 ·simp at hj
 ·injection e with e1 e2 e3
  subst e1
  exact ⟨g, o, rfl, by rw [Lib.cell_of_heap hg]; exact hd j hj⟩
def inL (ls : List ByteArray) (s : ByteArray) : Bool := ls.any fun l => l.toList == s.toList
/-- Is it a variable, in a pattern with these literals? -/
def isVar (ls : List ByteArray) (d : Dt) : Bool := (d.kind == 3) && !inL ls d.text && !(d.text.toList == [95]) && !d.dots
end Go.Proofs.Ytecljchifebljaa
namespace Go.Proofs.Ytecljchifebljaa
open Go.RowKit
mutual
/-- May it be, as far as dots go? -/
def Dt.pat : Dt → Bool
 | .mk k t ms l p => !(Dt.mk k t ms l p).dots && pats l true false
/-- The parts: whether it is the first one, whether dots came. -/
def pats : List Dt → Bool → Bool → Bool
 | [], _, _ => true
 | d :: r, first, came => if d.dots = true then (if first = true ∨ came = true then false else pats r false true) else (d.pat && pats r false came)
end
theorem pat_mk (k : Int) (t : ByteArray) (ms : List Int) (l : List Dt) (p : Int) : (Dt.mk k t ms l p).pat = (!(Dt.mk k t ms l p).dots && pats l true false) := by rw [Dt.pat]
theorem pats_cons (d : Dt) (r : List Dt) (first came : Bool) : pats (d :: r) first came = if d.dots = true then (if first = true ∨ came = true then false else pats r false true) else (d.pat && pats r false came) := by rw [pats]
end Go.Proofs.Ytecljchifebljaa
namespace Go.Proofs.Ytecljchifebljaa
open Go.RowKit
theorem Dts.At.drop {S : Nat → Prop} {w : World} : ∀ (l : List Dt) (arr : Array Value) (o k : Nat), Dts.At S w l arr o → Dts.At S w (l.drop k) arr (o + k * 5)
 | l, arr, o, 0, h => by simpa using h
 | [], arr, o, k + 1, h => by simp; unfold Dts.At; trivial
 | d :: l, arr, o, k + 1, h => by
  unfold Dts.At at h
  have := Dts.At.drop l arr (o + 5) k h.2
  rw [show o + (k + 1) * 5 = o + 5 + k * 5 by omega]
  simpa using this
theorem Dts.At.take {S : Nat → Prop} {w : World} : ∀ (l : List Dt) (arr : Array Value) (o k : Nat), Dts.At S w l arr o → Dts.At S w (l.take k) arr o
 | l, arr, o, 0, h => by simp; unfold Dts.At; trivial
 | [], arr, o, k + 1, h => by simp; unfold Dts.At; trivial
 | d :: l, arr, o, k + 1, h => by
  rw [List.take_succ_cons]
  unfold Dts.At at h ⊢
  exact ⟨h.1, Dts.At.take l arr (o + 5) k h.2⟩
theorem LAt.drop {S : Nat → Prop} {w : World} {g o n cap : Nat} {l : List Dt} (h : LAt S w (.slice (some ⟨g, o, none⟩) n cap) l) (k : Nat) (hk : k ≤ l.length) : LAt S w (.slice (some ⟨g, o + k * 5, none⟩) (l.length - k) (cap - k)) (l.drop k) := by
 rcases h with ⟨e, _⟩ | ⟨g', o', cap', arr, fz, e, hS, hg, hd, hc⟩
 ·cases e
 ·injection e with e1 e2 e3
  injection e1 with e1
  injection e1 with e4 e5
  subst e3; subst e4; subst e5
  exact .inr ⟨g, o + k * 5, cap - k, arr, fz, by rw [List.length_drop], hS, hg, Dts.At.drop l arr o k hd, by rw [List.length_drop]; omega⟩
theorem LAt.dropz {S : Nat → Prop} {w : World} {g o n : Nat} {l : List Dt} {cap : Nat} (h : LAt S w (.slice (some ⟨g, o, none⟩) n cap) l) (k : Nat) (hk : l.length ≤ k) : LAt S w (.slice (some ⟨g, o, none⟩) (l.length - k) 0) (l.drop k) := by
 rw [List.drop_eq_nil_of_le hk, show l.length - k = 0 by omega]
 rcases h with ⟨e, _⟩ | ⟨g', o', cap', arr, fz, e, hS, hg, hd, hc⟩
 ·cases e
 ·injection e with e1 e2 e3
  injection e1 with e1
  injection e1 with e4 e5
  subst e3; subst e4; subst e5
  exact .inr ⟨g, o, 0, arr, fz, rfl, hS, hg, by unfold Dts.At; trivial, Nat.le_refl _⟩
theorem MAt.form2 {S : Nat → Prop} {w : World} {mv : Value} {ms : List Int} (h : MAt S w mv ms) : ∃ ao cap, mv = .slice ao ms.length cap := by
 rcases h with ⟨rfl, rfl⟩ | ⟨g, o, cap, arr, fz, rfl, _⟩
 ·exact ⟨none, 0, rfl⟩
 ·exact ⟨_, _, rfl⟩
theorem LAt.take {S : Nat → Prop} {w : World} {g o n cap : Nat} {l : List Dt} (h : LAt S w (.slice (some ⟨g, o, none⟩) n cap) l) (k : Nat) (hk : k ≤ l.length) : LAt S w (.slice (some ⟨g, o, none⟩) k cap) (l.take k) := by
 rcases h with ⟨e, _⟩ | ⟨g', o', cap', arr, fz, e, hS, hg, hd, hc⟩
 ·cases e
 ·injection e with e1 e2 e3
  injection e1 with e1
  injection e1 with e4 e5
  subst e3; subst e4; subst e5
  exact .inr ⟨g, o, cap, arr, fz, by rw [List.length_take, Nat.min_eq_left hk], hS, hg, Dts.At.take l arr o k hd, by rw [List.length_take]; omega⟩
/-- Where the first dots stand; -1: there are none. -/
def ixD (l : List Dt) : Int := match l.findIdx? Dt.dots with
 | some i => (i : Int)
 | none => -1
theorem ixD_hit {l : List Dt} {j : Nat} (hj : j < l.length) (h : ∀ i (hi : i < l.length), i < j → l[i].dots = false) (hd : l[j].dots = true) : ixD l = (j : Int) := by
 unfold ixD
 rw [List.findIdx?_eq_some_iff_getElem.2 ⟨hj, hd, fun i hi => by have := h i (by omega) hi; rw [this]; decide⟩]
theorem ixD_none {l : List Dt} (h : ∀ i (hi : i < l.length), l[i].dots = false) : ixD l = -1 := by
 unfold ixD
 rw [List.findIdx?_eq_none_iff.2 fun x hx => by obtain ⟨i, hi, rfl⟩ := List.getElem_of_mem hx; exact h i hi]
theorem ixD_spec (l : List Dt) : (ixD l = -1 ∧ ∀ i (hi : i < l.length), l[i].dots = false) ∨ ∃ j, ∃ hj : j < l.length, ixD l = (j : Int) ∧ l[j].dots = true ∧ ∀ i (hi : i < l.length), i < j → l[i].dots = false := by
 unfold ixD
 cases h : l.findIdx? Dt.dots with
 | none => exact .inl ⟨rfl, fun i hi => List.findIdx?_eq_none_iff.1 h _ (List.getElem_mem hi)⟩
 | some j =>
  obtain ⟨hj, h1, h2⟩ := List.findIdx?_eq_some_iff_getElem.1 h
  exact .inr ⟨j, hj, rfl, h1, fun i hi hij => by have := h2 i hij; simpa using this⟩
def RetInt (n : Int) (w : World) (e : Ending) (w' : World) : Prop := e = .returned (.int .i64 n) ∧ Below w.heap.size w w'
def IxInv (l : List Dt) (w : World) (iv : Value) (wr : World) : Prop := ∃ j : Nat, j ≤ l.length ∧ iv = .int .i64 (j : Int) ∧ (∀ i (hi : i < l.length), i < j → l[i].dots = false) ∧ Below w.heap.size w wr
set_option maxHeartbeats 8000000 in
set_option maxRecDepth 100000 in
theorem index_any {S : Nat → Prop} (l : List Dt) (v : Value) (w : World) (hv : LAt S w v l) (hl : l.length ≤ 10000000) : Calls Try.prog 65 #[v, .func (.func 66) #[] #[]] w (RetInt (ixD l) w) := by
 have HV := Lib.hid hv
 obtain ⟨ao, ac, rfl⟩ := hv.form
 clear hv
 go_enter Try.func65, Try.ntmps65
 go_wp2_with fail
 go_loopw [8] (fun iv wr => IxInv l w iv wr) (fun iv _ => l.length - (intOf iv).toNat)
 case atStart => exact ⟨0, Nat.zero_le _, rfl, fun i h hh => absurd hh (by omega), Below.refl _ _⟩
 case round =>
  obtain ⟨j, hj, rfl, hr, hbw⟩ := hrel
  have HBW := Lib.hid hbw
  have HR := Lib.hid hr
  have HVr := Lib.hid (HV.out.keeps (Keeps.of_below hbw))
  clear hbw hr
  by_cases hlt : j < l.length
  ·have q1 : decide ((j : Int) < (l.length : Int)) = true := decide_eq_true (by omega)
   obtain ⟨g, o, k5, t5, mv5, lv5, p5, rfl, hS, _, hat, e0, e1, e2, e3, e4, o5, o6⟩ := HVr.out.get j hlt
   have FI := Lib.hid (isdots_any hat wr)
   clear hat
   obtain ⟨b, hb⟩ : ∃ b, b = l[j].dots := ⟨_, rfl⟩
   rw [← hb] at FI
   have HBD := Lib.hid hb
   clear hb
   go_wp2_with fail
   refine FI.out.mono ?_
   rintro e w2 ⟨rfl, hb2⟩
   have HB2 := Lib.hid (HBW.out.trans (hb2.mono HBW.out.size))
   clear hb2 e0 e1 e2 e3 e4
   cases b with
   | true =>
    have HE : Hid (ixD l = (j : Int)) := ixD_hit hlt HR.out HBD.out.symm
    go_wp2_with fail
    go_ret
    exact ⟨by rw [HE.out]; rfl, HB2.out⟩
   | false =>
    go_wp2_with fail
    go_roundw
    case rel => exact ⟨j + 1, by omega, by go_num, fun i h hh => (if e : i = j then (by subst e; exact HBD.out.symm) else HR.out i h (by omega)), HB2.out⟩
    case measure => simp [intOf]; omega
  ·obtain rfl : j = l.length := by omega
   have q1 : decide ((l.length : Int) < (l.length : Int)) = false := decide_eq_false (by omega)
   have HE : Hid (ixD l = -1) := ixD_none fun i hi => HR.out i hi hi
   go_wp2_with fail
   go_ret
   exact ⟨by rw [HE.out]; rfl, HBW.out⟩
set_option maxHeartbeats 8000000 in
theorem contains_any {S : Nat → Prop} (l : List Dt) (v : Value) (w : World) (hv : LAt S w v l) (hl : l.length ≤ 10000000) : Calls Try.prog 67 #[v, .func (.func 66) #[] #[]] w (RetBool (l.any Dt.dots) w) := by
 have FI := Lib.hid (index_any l v w hv hl)
 obtain ⟨ao, ac, rfl⟩ := hv.form
 clear hv
 obtain ⟨n, hn⟩ : ∃ n, n = ixD l := ⟨_, rfl⟩
 have HE : Hid (decide (0 ≤ n) = l.any Dt.dots) := by
  show _ = _
  rw [hn]
  rcases ixD_spec l with ⟨e, h⟩ | ⟨j, hj, e, h, _⟩
  ·rw [e, List.any_eq_false.2 fun x hx => by obtain ⟨i, hi, rfl⟩ := List.getElem_of_mem hx; rw [h i hi]; decide]; decide
  ·rw [e, List.any_eq_true.2 ⟨_, List.getElem_mem hj, h⟩]; exact decide_eq_true (by omega)
 rw [← hn] at FI
 clear hn
 go_enter Try.func67, Try.ntmps67
 go_wp2_with fail
 refine FI.out.mono ?_
 rintro e w2 ⟨rfl, hb2⟩
 have HB := Lib.hid hb2
 clear hb2
 have HE2 := HE.out
 go_wp2_with fail
 go_ret
 exact ⟨by first | rfl | (rw [HE.out]; rfl), HB.out⟩
end Go.Proofs.Ytecljchifebljaa
