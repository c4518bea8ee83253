/- Several operations of a drawn region are taken, one behind the other. -/
import Derived.Test.YtecljchifebljaaYAB
import Derived.Test.YtecljchifebljaaYAA
import Derived.ScopeJumps
import Derived.Deep.RegionHeld3
import Derived.Deep.MidRow
import Derived.Deep.Cut
import Derived.OwnWalk
set_option linter.unusedVariables false
set_option linter.unusedSimpArgs false
namespace Go.Proofs.Ytecljchifebljaa
open Go Go.RowKit
def marksL : List Nat → Array Bool → Array Bool
 | [], l => l
 | i :: r, l => marksL r (l.setIfInBounds i true)
def okL (md : Region.Mode) (ops : Array Oper) : List Nat → Array Bool → Bool
 | [], _ => true
 | i :: r, l => Region.free md ops l i && (Region.ready md ops l).contains i && okL md ops r (l.setIfInBounds i true)
/-- These operations yield, one behind the other; then K. -/
def TkH (P : Program) (ops : Array Oper) (S : World → Prop) (K : Act → Prop) : List Nat → Act → Prop
 | [], a => K a
 | i :: r, a => ∃ (oi : Oper) (v : Value), ops[i]? = some oi ∧ YieldsIf P ops S oi v a ∧ TkH P ops S K r (a.put oi.dst v)
theorem qtc {P : Program} {ops : Array Oper} {S : World → Prop} {K : Act → Prop} {i : Nat} {r : List Nat} {oi : Oper} {v : Value} {a : Act} (hi : ops[i]? = some oi) (hw : Region.wanted oi (yielded ops a.tmps) = true)
  (hx : ∀ w, S w → (execOp a.eval oi).run P w = .ok (.value v) w) (h : TkH P ops S K r (a.put oi.dst v)) : TkH P ops S K (i :: r) a := ⟨oi, v, hi, .inl ⟨hw, hx⟩, h⟩
theorem qtz {P : Program} {ops : Array Oper} {S : World → Prop} {K : Act → Prop} {i : Nat} {r : List Nat} {oi : Oper} {a : Act} (hi : ops[i]? = some oi) (hw : Region.wanted oi (yielded ops a.tmps) = false)
  (h : TkH P ops S K r (a.put oi.dst undef)) : TkH P ops S K (i :: r) a := ⟨oi, undef, hi, .inr ⟨hw, rfl⟩, h⟩
theorem qtn {P : Program} {ops : Array Oper} {S : World → Prop} {K : Act → Prop} {a : Act} (h : K a) : TkH P ops S K [] a := h
theorem qts0 {P : Program} {md : Region.Mode} {ops : Array Oper} {Q : Exit → Act → World → Prop} {S : World → Prop} {w : World} (hS : S w) (hs : Region.noSelect ops = true) (hQ : ∀ d v c a w, Q (.panic c) (a.put d v) w → Q (.panic c) a w) (g : Nat) :
  ∀ (is : List Nat) (a : Act) (listed : Array Bool) (m : Array Bool), m = marksL is listed → okL md ops is listed = true → TkH P ops S (fun a => wpAnyH P md ops Q S g m a w) is a → wpAnyH P md ops Q S (g + is.length) listed a w
 | [], a, listed, m, e, _, h => by subst e; exact h
 | i :: r, a, listed, m, e, hok, h => by
  obtain ⟨oi, v, hi, hy, h⟩ := h
  simp only [okL, Bool.and_eq_true] at hok
  exact wpAnyH_take hi hs hok.1.1 hok.1.2 (hQ _ _) hy hS (qts0 hS hs hQ g r _ _ m e hok.2 h)
theorem qts {P : Program} {md : Region.Mode} {ops : Array Oper} {Q : Exit → Act → World → Prop} {S : World → Prop} (is : List Nat) {fuel : Nat} {listed : Array Bool} {a : Act} {w : World}
  (hS : S w) (h : TkH P ops S (fun a => wpAnyH P md ops Q S (fuel - is.length) (marksL is listed) a w) is a)
  (hok : (okL md ops is listed && Region.noSelect ops && decide (is.length ≤ fuel)) = true := by kernel_rfl)
  (hQ : ∀ d v c a w, Q (.panic c) (a.put d v) w → Q (.panic c) a w := by exact fun _ _ _ _ _ h => h) : wpAnyH P md ops Q S fuel listed a w := by
 simp only [Bool.and_eq_true, decide_eq_true_eq] at hok
 have := qts0 hS hok.1.2 hQ (fuel - is.length) is a listed _ rfl hok.1.1 h
 rw [Nat.sub_add_cancel hok.2] at this
 exact this
/-- What waits, at last, for number i. -/
def closB (md : Region.Mode) (ops : Array Oper) (listed : Array Bool) (i : Nat) : List Nat :=
 (List.range ops.size).foldl (fun B k => if !listed.getD k true && (match ops[k]? with | some o => o.after.any fun e => Region.binds md e && (e.on == i || B.contains e.on) | none => false) then B ++ [k] else B) []
def okM (md : Region.Mode) (ops : Array Oper) (late : Nat → Bool) : List Nat → Array Bool → Bool
 | [], _ => true
 | i :: r, l => Region.free md ops l i && (Region.ready md ops l).contains i && waitsB md ops late (closB md ops l i) l i && okM md ops late r (l.setIfInBounds i true)
theorem qtl0 {P : Program} {md : Region.Mode} {ops : Array Oper} {Q : Exit → Act → World → Prop} {S : World → Prop} {late : Nat → Bool} {w : World} (hS : S w) (hs : Region.noSelect ops = true) (hQ : ∀ d v c a w, Q (.panic c) (a.put d v) w → Q (.panic c) a w) (g : Nat) :
  ∀ (is : List Nat) (a : Act) (listed : Array Bool) (m : Array Bool), m = marksL is listed → okM md ops late is listed = true → TkH P ops S (fun a => wpAnyL P md ops Q S late g m a w) is a → wpAnyL P md ops Q S late (g + is.length) listed a w
 | [], a, listed, m, e, _, h => by subst e; exact h
 | i :: r, a, listed, m, e, hok, h => by
  obtain ⟨oi, v, hi, hy, h⟩ := h
  simp only [okM, Bool.and_eq_true] at hok
  exact wpAnyL_take hi hs hok.1.1.1 hok.1.1.2 hok.1.2 (hQ _ _) hy hS (qtl0 hS hs hQ g r _ _ m e hok.2 h)
theorem qtl {P : Program} {md : Region.Mode} {ops : Array Oper} {Q : Exit → Act → World → Prop} {S : World → Prop} {late : Nat → Bool} (is : List Nat) {fuel : Nat} {listed : Array Bool} {a : Act} {w : World}
  (hS : S w) (h : TkH P ops S (fun a => wpAnyL P md ops Q S late (fuel - is.length) (marksL is listed) a w) is a)
  (hok : (okM md ops late is listed && Region.noSelect ops && decide (is.length ≤ fuel)) = true := by kernel_rfl)
  (hQ : ∀ d v c a w, Q (.panic c) (a.put d v) w → Q (.panic c) a w := by exact fun _ _ _ _ _ h => h) : wpAnyL P md ops Q S late fuel listed a w := by
 simp only [Bool.and_eq_true, decide_eq_true_eq] at hok
 have := qtl0 hS hok.1.2 hQ (fuel - is.length) is a listed _ rfl hok.1.1 h
 rw [Nat.sub_add_cancel hok.2] at this
 exact this
end Go.Proofs.Ytecljchifebljaa
namespace Go

/-- As Q; by a goto to a label: what holds there. -/
def Exit.jumps (J : Nat → Act → World → Prop) (Q : Exit → Act → World → Prop) : Exit → Act → World → Prop
 | .goto l, a, w => J l a w
 | e, a, w => Q e a w

section
variable {P : Program} {a : Act} {w : World} {Q : Exit → Act → World → Prop}

theorem wp_scope_labels {c : Code} (J : Nat → Act → World → Prop) (μ : Nat → Act → World → Nat)
  (first : c.wp P (Exit.jumps J Q) a w)
  (pass : ∀ l a w, J l a w → ∃ rest, findLabel c l = some rest ∧ rest.wp P (Exit.jumps (fun l' a' w' => J l' a' w' ∧ μ l' a' w' < μ l a w) Q) a w) : (Code.scope c).wp P Q a w := by
 intro b k cs
 have key : ∀ n l a w, μ l a w = n → J l a w → ∃ rest, findLabel c l = some rest ∧ ∃ e a' w', Q e a' w' ∧ Arrives P (lone (b.at a (.code rest :: .inScope c :: k)) cs w) b k cs e a' w' := by
  intro n
  induction n using Nat.strongRecOn with
  | _ n ih =>
   intro l a w hn hJ
   obtain ⟨rest, hf, hw⟩ := pass l a w hJ
   refine ⟨rest, hf, ?_⟩
   obtain ⟨e, a₁, w₁, hq, harr⟩ := hw b (.inScope c :: k) cs
   cases e with
   | normal => exact ⟨.normal, a₁, w₁, hq, Steps.trans harr (.one step_inScope)⟩
   | exit id => exact ⟨.exit id, a₁, w₁, hq, fun k' hk => harr k' (by simp [exitTo, hk])⟩
   | goto l' =>
    obtain ⟨hJ', hlt⟩ := hq
    obtain ⟨rest', hf', e₂, a₂, w₂, hq₂, harr₂⟩ := ih _ (by omega) l' a₁ w₁ rfl hJ'
    have hg : gotoIn l' (.inScope c :: k) = some (.code rest' :: .inScope c :: k) := by simp [gotoIn, hf']
    exact ⟨e₂, a₂, w₂, hq₂, .of_steps (harr _ hg) harr₂⟩
   | ret => exact ⟨_, a₁, w₁, hq, harr⟩
   | panic ch => exact ⟨_, a₁, w₁, hq, harr⟩
   | outgrown => exact ⟨_, a₁, w₁, hq, harr⟩
 obtain ⟨e, a₁, w₁, hq, harr⟩ := first b (.inScope c :: k) cs
 cases e with
 | normal => exact ⟨.normal, a₁, w₁, hq, .head step_scope (Steps.trans harr (.one step_inScope))⟩
 | exit id => exact ⟨.exit id, a₁, w₁, hq, fun k' hk => .head step_scope (harr k' (by simp [exitTo, hk]))⟩
 | goto l' =>
  obtain ⟨rest', hf', e₂, a₂, w₂, hq₂, harr₂⟩ := key _ l' a₁ w₁ rfl hq
  have hg : gotoIn l' (.inScope c :: k) = some (.code rest' :: .inScope c :: k) := by simp [gotoIn, hf']
  exact ⟨e₂, a₂, w₂, hq₂, .of_steps (.head step_scope (harr _ hg)) harr₂⟩
 | ret => exact ⟨_, a₁, w₁, hq, .of_steps (.one step_scope) harr⟩
 | panic ch => exact ⟨_, a₁, w₁, hq, .of_steps (.one step_scope) harr⟩
 | outgrown => exact ⟨_, a₁, w₁, hq, .of_steps (.one step_scope) harr⟩
end
end Go
namespace Go.Proofs.Ytecljchifebljaa
open Go.RowKit

def qT : ByteArray := ⟨#[113, 117, 111, 116, 101]⟩
end Go.Proofs.Ytecljchifebljaa
namespace Go.Proofs.Ytecljchifebljaa
open Go.RowKit
/-- A row with five cells written over. -/
def put5 (arr : Array Value) (o : Nat) (a b c d e : Value) : Array Value := ((((arr.setIfInBounds o a).setIfInBounds (o + 1) b).setIfInBounds (o + 1 + 1) c).setIfInBounds (o + 1 + 1 + 1) d).setIfInBounds (o + 1 + 1 + 1 + 1) e
theorem setCells5 (w : World) (g o : Nat) (arr : Array Value) (T : TypeId) (a b c d e : Value) (hg : w.heap[g]? = some (.cells arr T (0, 0))) :
  (w.setCells g o [a, b, c, d, e]).heap[g]? = some (.cells (put5 arr o a b c d e) T (0, 0)) := by
 simp only [World.setCells]
 exact heap_setCell_same _ g _ _ T e (heap_setCell_same _ g _ _ T d (heap_setCell_same _ g _ _ T c (heap_setCell_same _ g _ _ T b (heap_setCell_same _ g _ _ T a hg))))
theorem setCells5_other (w : World) (g o k : Nat) (a b c d e : Value) (hk : k ≠ g) : (w.setCells g o [a, b, c, d, e]).heap[k]? = w.heap[k]? := by
 simp only [World.setCells]
 rw [heap_setCell_other _ _ _ _ hk, heap_setCell_other _ _ _ _ hk, heap_setCell_other _ _ _ _ hk, heap_setCell_other _ _ _ _ hk, heap_setCell_other _ _ _ _ hk]
theorem put5_size (arr : Array Value) (o : Nat) (a b c d e : Value) : (put5 arr o a b c d e).size = arr.size := by simp [put5]
theorem put5_other (arr : Array Value) (o k : Nat) (a b c d e : Value) (h : k < o ∨ o + 5 ≤ k) : (put5 arr o a b c d e)[k]? = arr[k]? := by
 unfold put5
 rw [Array.getElem?_setIfInBounds_ne (by omega), Array.getElem?_setIfInBounds_ne (by omega), Array.getElem?_setIfInBounds_ne (by omega), Array.getElem?_setIfInBounds_ne (by omega), Array.getElem?_setIfInBounds_ne (by omega)]
theorem put5_at (arr : Array Value) (o : Nat) (a b c d e : Value) (h : o + 5 ≤ arr.size) : ∀ i, i < 5 → (put5 arr o a b c d e)[o + i]? = (#[a, b, c, d, e] : Array Value)[i]? := by
 intro i hi
 have h5 : i = 0 ∨ i = 1 ∨ i = 2 ∨ i = 3 ∨ i = 4 := by omega
 unfold put5
 rcases h5 with rfl | rfl | rfl | rfl | rfl
 ·show _[o]? = _
  rw [Array.getElem?_setIfInBounds_ne (by omega), Array.getElem?_setIfInBounds_ne (by omega), Array.getElem?_setIfInBounds_ne (by omega), Array.getElem?_setIfInBounds_ne (by omega), Array.getElem?_setIfInBounds_self_of_lt (by first | omega | (simp; omega))]; rfl
 ·show _[o + 1]? = _
  rw [Array.getElem?_setIfInBounds_ne (by omega), Array.getElem?_setIfInBounds_ne (by omega), Array.getElem?_setIfInBounds_ne (by omega), Array.getElem?_setIfInBounds_self_of_lt (by first | omega | (simp; omega))]; rfl
 ·show _[o + 1 + 1]? = _
  rw [Array.getElem?_setIfInBounds_ne (by omega), Array.getElem?_setIfInBounds_ne (by omega), Array.getElem?_setIfInBounds_self_of_lt (by first | omega | (simp; omega))]; rfl
 ·show _[o + 1 + 1 + 1]? = _
  rw [Array.getElem?_setIfInBounds_ne (by omega), Array.getElem?_setIfInBounds_self_of_lt (by first | omega | (simp; omega))]; rfl
 ·show _[o + 1 + 1 + 1 + 1]? = _
  rw [Array.getElem?_setIfInBounds_self_of_lt (by first | omega | (simp; omega))]; rfl


theorem put5_take {cur : Array Value} {n : Nat} {xs zs : List Value} (hx : xs.length = n * 5) (hz : zs.length = 5) (ht : cur.toList.take ((n + 1) * 5) = xs ++ zs) (hs : (n + 1) * 5 ≤ cur.size) (a b c d e : Value) :
  (put5 cur (n * 5) a b c d e).toList.take ((n + 1) * 5) = xs ++ [a, b, c, d, e] := by
 apply List.ext_getElem?
 intro i
 by_cases hi : i < (n + 1) * 5
 ·rw [List.getElem?_take, if_pos hi]
  have h0 : cur.toList[i]? = (xs ++ zs)[i]? := by rw [← ht, List.getElem?_take, if_pos hi]
  by_cases hlt : i < n * 5
  ·have h1 := put5_other cur (n * 5) i a b c d e (.inl hlt)
   rw [Array.getElem?_toList, h1, ← Array.getElem?_toList, h0, List.getElem?_append_left (by omega), List.getElem?_append_left (by omega)]
  ·obtain ⟨j, rfl⟩ : ∃ j, i = n * 5 + j := ⟨i - n * 5, by omega⟩
   have h1 := put5_at cur (n * 5) a b c d e (by omega) j (by omega)
   rw [Array.getElem?_toList, h1, List.getElem?_append_right (by omega), show n * 5 + j - xs.length = j by omega]
   simp
 ·rw [List.getElem?_eq_none (by rw [List.length_take]; omega), List.getElem?_eq_none (by simp; omega)]
theorem OwnS.mono {S T : Nat → Prop} {B : Nat} {w : World} {v : Value} {ds : List Dt} (h : OwnS S B w v ds) (hS : ∀ x, S x → T x) : OwnS T B w v ds := by
 obtain ⟨xs, hown, hd⟩ := h
 refine ⟨xs, hown, fun j hj => ?_⟩
 obtain ⟨cs, h5, h1, h2⟩ := hd j hj
 exact ⟨cs, h5, h1, Dt.At.mono hS _ _ h2⟩
theorem OwnS.lt {S : Nat → Prop} {B : Nat} {w : World} {v : Value} {ds : List Dt} (h : OwnS S B w v ds) {k : Nat} (hk : v.ownBlock = some k) : B ≤ k ∧ k < w.heap.size := by
 obtain ⟨xs, hown, _⟩ := h
 exact hown.lt k hk
theorem OwnS.keep {S : Nat → Prop} {B : Nat} {w w' : World} {v : Value} {ds : List Dt} (h : OwnS S B w v ds) (ho : ∀ x c, v.ownBlock = some x → w.heap[x]? = some (.cells c 29 (0, 0)) → w'.heap[x]? = some (.cells c 29 (0, 0))) (hk : Keeps S w w') : OwnS S B w' v ds := by
 obtain ⟨xs, hown, hd⟩ := h
 refine ⟨xs, ⟨hown.1, ?_⟩, fun j hj => ?_⟩
 ·rcases hown.2 with h | ⟨g, cap, cur, rfl, hb, hg, r⟩
  ·exact .inl h
  ·exact .inr ⟨g, cap, cur, rfl, hb, ho g cur rfl hg, r⟩
 ·obtain ⟨cs, h5, h1, h2⟩ := hd j hj
  exact ⟨cs, h5, h1, Dt.At.keeps hk _ _ h2⟩
end Go.Proofs.Ytecljchifebljaa
namespace Go.Proofs.Ytecljchifebljaa
open Go.RowKit
theorem nblk5 (w : World) (a : Addr) (v : Value) : (w.setCell a v).heap.size = w.heap.size := by simp [World.setCell]
/-- The box of the part that is put stands. -/
def Boxed (b : Nat) (C : Array Value) (w : World) : Prop := w.heap[b]? = some (.cells C 29 (0, 0))
theorem there_of_row {w : World} {g o n : Nat} {arr : Array Value} {T : TypeId} (h : w.heap[g]? = some (.cells arr T (0, 0))) (hs : o + n ≤ arr.size) : w.there g o n := fun j hj => by
 refine ⟨?_, frozen_of_row w g (o + j) arr T h⟩
 rw [Lib.cell_of_heap h]
 have : o + j < arr.size := by omega
 simp [this]
end Go.Proofs.Ytecljchifebljaa
namespace Go.Proofs.Ytecljchifebljaa
open Go.RowKit
theorem box_range {b : Nat} {k : Int} {t : ByteArray} {mv lv : Value} {p : Int} {w : World} (h : Boxed b #[.int .i64 k, .string t, mv, lv, .int .i64 p] w) : w.rangeAt b 0 [.int .i64 k, .string t, mv, lv, .int .i64 p] := by
 intro j v hv
 rw [Lib.cell_of_heap h]
 simpa using hv
end Go.Proofs.Ytecljchifebljaa
namespace Go.Proofs.Ytecljchifebljaa
open Go.RowKit
/-- A list that is begun: where, whether by a quote, its parts till now. -/
structure En where
 pl : Int
 q : Bool
 ds : List Dt
def En.dt (e : En) : Dt := .mk 4 ⟨#[]⟩ [] e.ds e.pl
def En.add (e : En) (d : Dt) : En := ⟨e.pl, e.q, e.ds ++ [d]⟩
/-- What may come next. -/
inductive Pc
 | next | begin | finish | token | put (d : Dt) | stop
/-- What Read answers. -/
inductive Rs
 | ok (ds : List Dt) | err (e : Int) (at_ : Nat)
/-- Read: from a label on, at a place, with the lists that are begun, the innermost first; n bounds the steps. -/
def rd (s : List UInt8) : Nat → Pc → Nat → En → List En → Option Rs
 | 0, _, _, _, _ => none
 | n + 1, .next, p, e, r =>
  match s[p + gapOf false (s.drop p)]? with
  | none => rd s n .stop (p + gapOf false (s.drop p)) e r
  | some b => if b = 40 ∨ b = 39 then rd s n .begin (p + gapOf false (s.drop p)) e r else if b = 41 then rd s n .finish (p + gapOf false (s.drop p)) e r else rd s n .token (p + gapOf false (s.drop p)) e r
 | n + 1, .begin, p, e, r =>
  match s[p]? with
  | none => none
  | some b => if r.length = 60 then some (.err 6 p) else rd s n .next (p + 1) ⟨p, b == 39, if (b == 39) = true then [.mk 3 qT [] [] p] else []⟩ (e :: r)
 | n + 1, .finish, p, e, r =>
  match r with
  | [] => some (.err 4 p)
  | f :: r' => if e.q = true then some (.err 4 p) else rd s n (.put e.dt) (p + 1) f r'
 | n + 1, .token, p, e, r =>
  match tokOf (s.drop p) with
  | none => some (.err 3 p)
  | some (k, t, m) => rd s n (.put (.mk k t [] [] p)) (p + m) e r
 | n + 1, .put d, p, e, r =>
  if e.q = true then
   match r with
   | [] => none
   | f :: r' => rd s n (.put (e.add d).dt) p f r'
  else rd s n .next p (e.add d) r
 | n + 1, .stop, p, e, r => if 0 < r.length then some (.err 5 p) else some (.ok e.ds)
end Go.Proofs.Ytecljchifebljaa
namespace Go.Proofs.Ytecljchifebljaa
open Go.RowKit
theorem OwnS.lat {S : Nat → Prop} {B : Nat} {w : World} {v : Value} {ds : List Dt} (h : OwnS S B w v ds) : LAt (fun g => S g ∨ v.ownBlock = some g) w v ds := by
 obtain ⟨xs, hown, hd⟩ := h
 rcases hown.2 with ⟨rfl, hz⟩ | ⟨g, cap, cur, rfl, hbg, hg, hnc, hcm, hcs, htake⟩
 ·exact .inl ⟨rfl, List.length_eq_zero_iff.1 hz⟩
 ·refine .inr ⟨g, 0, cap, cur, (0, 0), rfl, .inr rfl, hg, Dts.At.of_get _ _ _ (fun j hj => ?_), hnc⟩
  obtain ⟨cs, h5, h1, h2⟩ := hd j hj
  refine ⟨cs, fun i hi => ?_, Dt.At.mono (fun g h => .inl h) _ _ h2⟩
  rw [← h1 i hi, ← htake, List.getElem?_take, if_pos (by omega)]
  simp
end Go.Proofs.Ytecljchifebljaa
namespace Go
section
variable {P : Program} {a : Act} {w : World} {Q : Exit → Act → World → Prop}
/-- As wp_scope_labels; the measure is no function of the state: what holds at a label bounds the jumps that are left. -/
theorem wp_scope_fuel {c : Code} (J : Nat → Nat → Act → World → Prop)
  (first : c.wp P (Exit.jumps (fun l a w => ∃ n, J n l a w) Q) a w)
  (pass : ∀ n l a w, J n l a w → ∃ rest, findLabel c l = some rest ∧ rest.wp P (Exit.jumps (fun l' a' w' => ∃ n', n' < n ∧ J n' l' a' w') Q) a w) : (Code.scope c).wp P Q a w := by
 intro b k cs
 have key : ∀ n l a w, J n l a w → ∃ rest, findLabel c l = some rest ∧ ∃ e a' w', Q e a' w' ∧ Arrives P (lone (b.at a (.code rest :: .inScope c :: k)) cs w) b k cs e a' w' := by
  intro n
  induction n using Nat.strongRecOn with
  | _ n ih =>
   intro l a w hJ
   obtain ⟨rest, hf, hw⟩ := pass n l a w hJ
   refine ⟨rest, hf, ?_⟩
   obtain ⟨e, a₁, w₁, hq, harr⟩ := hw b (.inScope c :: k) cs
   cases e with
   | normal => exact ⟨.normal, a₁, w₁, hq, Steps.trans harr (.one step_inScope)⟩
   | exit id => exact ⟨.exit id, a₁, w₁, hq, fun k' hk => harr k' (by simp [exitTo, hk])⟩
   | goto l' =>
    obtain ⟨n', hlt, hJ'⟩ := hq
    obtain ⟨rest', hf', e₂, a₂, w₂, hq₂, harr₂⟩ := ih n' hlt l' a₁ w₁ hJ'
    have hg : gotoIn l' (.inScope c :: k) = some (.code rest' :: .inScope c :: k) := by simp [gotoIn, hf']
    exact ⟨e₂, a₂, w₂, hq₂, .of_steps (harr _ hg) harr₂⟩
   | ret => exact ⟨_, a₁, w₁, hq, harr⟩
   | panic ch => exact ⟨_, a₁, w₁, hq, harr⟩
   | outgrown => exact ⟨_, a₁, w₁, hq, harr⟩
 obtain ⟨e, a₁, w₁, hq, harr⟩ := first b (.inScope c :: k) cs
 cases e with
 | normal => exact ⟨.normal, a₁, w₁, hq, .head step_scope (Steps.trans harr (.one step_inScope))⟩
 | exit id => exact ⟨.exit id, a₁, w₁, hq, fun k' hk => .head step_scope (harr k' (by simp [exitTo, hk]))⟩
 | goto l' =>
  obtain ⟨n, hJ⟩ := hq
  obtain ⟨rest', hf', e₂, a₂, w₂, hq₂, harr₂⟩ := key n l' a₁ w₁ hJ
  have hg : gotoIn l' (.inScope c :: k) = some (.code rest' :: .inScope c :: k) := by simp [gotoIn, hf']
  exact ⟨e₂, a₂, w₂, hq₂, .of_steps (.head step_scope (harr _ hg)) harr₂⟩
 | ret => exact ⟨_, a₁, w₁, hq, .of_steps (.one step_scope) harr⟩
 | panic ch => exact ⟨_, a₁, w₁, hq, .of_steps (.one step_scope) harr⟩
 | outgrown => exact ⟨_, a₁, w₁, hq, .of_steps (.one step_scope) harr⟩
end
end Go
namespace Go.Proofs.Ytecljchifebljaa
open Go.RowKit
end Go.Proofs.Ytecljchifebljaa
namespace Go.Proofs.Ytecljchifebljaa
open Go.RowKit Go.BigM
theorem tokOf_pos {l : List UInt8} {k : Int} {t : ByteArray} {m : Nat} (h : tokOf l = some (k, t, m)) : 1 ≤ m := by
 unfold tokOf at h
 split at h
 ·cases hb : boolOf l with
  | none => rw [hb] at h; cases h
  | some b => rw [hb] at h; injection h with h; injection h with _ h; injection h with _ h; omega
 ·split at h
  ·cases h
  ·split at h
   ·split at h
    ·injection h with h; injection h with _ h; injection h with _ h; omega
    ·cases h
   ·split at h
    ·cases h
    ·injection h with h; injection h with _ h; injection h with _ h; omega
end Go.Proofs.Ytecljchifebljaa
namespace Go.Proofs.Ytecljchifebljaa
open Go.RowKit Go.BigM
theorem bAt_len {l t : List UInt8} (h : bAt l t = true) : t.length ≤ l.length := by
 unfold bAt at h
 have h1 : Lib.hasPrefix l t = true := by
  cases hp : Lib.hasPrefix l t with
  | true => rfl
  | false => simp [hp] at h
 unfold Lib.hasPrefix at h1
 exact (List.isPrefixOf_iff_prefix.1 h1).length_le
theorem tokOf_le {l : List UInt8} {k : Int} {t : ByteArray} {m : Nat} (h : tokOf l = some (k, t, m)) : m ≤ l.length := by
 have hr := rowOf_le sset l
 unfold tokOf at h
 split at h
 ·cases hb : boolOf l with
  | none => rw [hb] at h; cases h
  | some b =>
   rw [hb] at h
   injection h with h; injection h with _ h; injection h with _ h
   unfold boolOf at hb
   split at hb
   ·rename_i h1; have := bAt_len h1; simp at this; omega
   ·split at hb
    ·rename_i h1; have := bAt_len h1; simp at this; omega
    ·cases hb
 ·split at h
  ·cases h
  ·split at h
   ·split at h
    ·injection h with h; injection h with _ h; injection h with _ h; omega
    ·cases h
   ·split at h
    ·cases h
    ·injection h with h; injection h with _ h; injection h with _ h; omega
/-- The outermost list is the text's own. -/
def Outer : En → List En → Prop
 | e, [] => e.q = false
 | _, f :: r => Outer f r
theorem Outer.add {e : En} {r : List En} (h : Outer e r) (d : Dt) : Outer (e.add d) r := by
 cases r with
 | nil => exact h
 | cons f r => exact h
def Pc.rank : Pc → Nat
 | .put _ => 3 | .next => 2 | _ => 1
def Pc.fits (s : List UInt8) (p : Nat) : Pc → Prop
 | .begin => p < s.length | .finish => p < s.length | .token => p < s.length | _ => p ≤ s.length
theorem rd_total (s : List UInt8) : ∀ (n : Nat) (pc : Pc) (p : Nat) (e : En) (r : List En), 8 * (2 * (s.length - p) + r.length) + pc.rank ≤ n → pc.fits s p → Outer e r → ∃ R, rd s n pc p e r = some R := by
 intro n
 induction n with
 | zero => intro pc p e r h; cases pc <;> simp [Pc.rank] at h
 | succ n ih =>
  intro pc p e r h hp ho
  cases pc with
  | next =>
   have hp : p ≤ s.length := hp
   have hg : gapOf false (s.drop p) ≤ s.length - p := by have := gapOf_le false (s.drop p); simpa using this
   simp only [Pc.rank] at h
   unfold rd
   split
   ·exact ih _ _ _ _ (by simp [Pc.rank]; omega) (by simp only [Pc.fits]; omega) ho
   ·rename_i b hb
    have hlt := (List.getElem?_eq_some_iff.1 hb).1
    split
    ·exact ih _ _ _ _ (by simp [Pc.rank]; omega) (by simp only [Pc.fits]; omega) ho
    ·split
     ·exact ih _ _ _ _ (by simp [Pc.rank]; omega) (by simp only [Pc.fits]; omega) ho
     ·exact ih _ _ _ _ (by simp [Pc.rank]; omega) (by simp only [Pc.fits]; omega) ho
  | begin =>
   have hp : p < s.length := hp
   simp only [Pc.rank] at h
   unfold rd
   rw [List.getElem?_eq_getElem hp]
   simp only
   split
   ·exact ⟨_, rfl⟩
   ·exact ih _ _ _ _ (by simp [Pc.rank]; omega) (by simp only [Pc.fits]; omega) ho
  | finish =>
   have hp : p < s.length := hp
   simp only [Pc.rank] at h
   unfold rd
   cases r with
   | nil => exact ⟨_, rfl⟩
   | cons f r =>
    simp only
    split
    ·exact ⟨_, rfl⟩
    ·exact ih _ _ _ _ (by simp [Pc.rank] at h ⊢; omega) (by simp only [Pc.fits]; omega) ho
  | token =>
   have hp : p < s.length := hp
   simp only [Pc.rank] at h
   unfold rd
   split
   ·exact ⟨_, rfl⟩
   ·rename_i k t m ht
    have h1 := tokOf_pos ht
    have h2 := tokOf_le ht
    simp only [List.length_drop] at h2
    exact ih _ _ _ _ (by simp [Pc.rank]; omega) (by simp only [Pc.fits]; omega) ho
  | put d =>
   have hp : p ≤ s.length := hp
   simp only [Pc.rank] at h
   unfold rd
   split
   ·rename_i hq
    cases r with
    | nil => exact absurd hq (by rw [show e.q = false from ho]; decide)
    | cons f r => exact ih _ _ _ _ (by simp [Pc.rank] at h ⊢; omega) hp ho
   ·exact ih _ _ _ _ (by simp [Pc.rank] at h ⊢; omega) hp (ho.add d)
  | stop => unfold rd; split <;> exact ⟨_, rfl⟩
end Go.Proofs.Ytecljchifebljaa
namespace Go.Proofs.Ytecljchifebljaa
open Go.RowKit Go.BigM
def wgt (e : En) (r : List En) : Nat := match r with | [] => 1 + Dt.sizes e.ds | f :: r' => 1 + Dt.sizes e.ds + wgt f r'
def Pc.wgt : Pc → Nat | .put d => d.size | _ => 0
theorem sizes_snoc : ∀ (l : List Dt) (d : Dt), Dt.sizes (l ++ [d]) = Dt.sizes l + d.size
 | [], d => by simp [Dt.sizes]
 | x :: l, d => by simp only [List.cons_append, Dt.sizes]; rw [sizes_snoc l d]; omega
theorem wgt_add (e : En) (r : List En) (d : Dt) : wgt (e.add d) r = wgt e r + d.size := by
 cases r <;> simp [wgt, En.add, sizes_snoc] <;> omega
theorem dt_size (e : En) : e.dt.size = 1 + Dt.sizes e.ds := by simp [En.dt, Dt.size]
theorem rd_size (s : List UInt8) : ∀ (n : Nat) (pc : Pc) (p : Nat) (e : En) (r : List En) (ds : List Dt), rd s n pc p e r = some (.ok ds) → pc.fits s p → wgt e r + pc.wgt ≤ 2 * p + 1 → Dt.sizes ds ≤ 2 * s.length := by
 intro n
 induction n with
 | zero => intro pc p e r ds h; cases h
 | succ n ih =>
  intro pc p e r ds h hf hw
  cases pc with
  | next =>
   have hg := gapOf_le false (s.drop p)
   rw [List.length_drop] at hg
   have hf' : p ≤ s.length := hf
   simp only [Pc.wgt] at hw
   unfold rd at h
   split at h
   ·exact ih _ _ _ _ _ h (by show _ ≤ _; omega) (by simp only [Pc.wgt]; omega)
   ·rename_i b hb
    have hlt : p + gapOf false (s.drop p) < s.length := (List.getElem?_eq_some_iff.1 hb).1
    split at h
    ·exact ih _ _ _ _ _ h hlt (by simp only [Pc.wgt]; omega)
    ·split at h
     ·exact ih _ _ _ _ _ h hlt (by simp only [Pc.wgt]; omega)
     ·exact ih _ _ _ _ _ h hlt (by simp only [Pc.wgt]; omega)
  | begin =>
   have hf' : p < s.length := hf
   simp only [Pc.wgt] at hw
   unfold rd at h
   split at h
   ·cases h
   ·rename_i b hb
    split at h
    ·cases h
    ·refine ih _ _ _ _ _ h (by show _ ≤ _; omega) ?_
     simp only [Pc.wgt, wgt]
     split <;> simp [Dt.sizes, Dt.size] <;> omega
  | finish =>
   have hf' : p < s.length := hf
   simp only [Pc.wgt] at hw
   unfold rd at h
   cases r with
   | nil => cases h
   | cons f r' =>
    simp only [] at h
    split at h
    ·cases h
    ·refine ih _ _ _ _ _ h (by show _ ≤ _; omega) ?_
     simp only [Pc.wgt, dt_size]
     simp only [wgt] at hw
     omega
  | token =>
   have hf' : p < s.length := hf
   simp only [Pc.wgt] at hw
   unfold rd at h
   split at h
   ·cases h
   ·rename_i k t m ht
    have m1 := tokOf_pos ht
    have m2 := tokOf_le ht
    rw [List.length_drop] at m2
    refine ih _ _ _ _ _ h (by show _ ≤ _; omega) ?_
    simp only [Pc.wgt, Dt.size, Dt.sizes]
    omega
  | put d =>
   have hf' : p ≤ s.length := hf
   simp only [Pc.wgt] at hw
   unfold rd at h
   split at h
   ·cases r with
    | nil => cases h
    | cons f r' =>
     simp only [] at h
     refine ih _ _ _ _ _ h (by show _ ≤ _; omega) ?_
     simp only [Pc.wgt, dt_size]
     have h2 := wgt_add e (f :: r') d
     simp only [wgt] at hw h2
     omega
   ·refine ih _ _ _ _ _ h (by show _ ≤ _; omega) ?_
    simp only [Pc.wgt]
    rw [wgt_add]; omega
  | stop =>
   have hf' : p ≤ s.length := hf
   simp only [Pc.wgt] at hw
   unfold rd at h
   split at h
   ·cases h
   ·rename_i hr
    injection h with h
    injection h with h
    subst h
    have : r = [] := by cases r with | nil => rfl | cons _ _ => simp at hr
    subst this
    simp only [wgt] at hw
    omega
end Go.Proofs.Ytecljchifebljaa
namespace Go
section
variable {P : Program} {a : Act} {w : World} {Q : Exit → Act → World → Prop}
theorem Exit.jumps_mono {J J' : Nat → Act → World → Prop} (h : ∀ l a w, J l a w → J' l a w) : ∀ e a w, Exit.jumps J Q e a w → Exit.jumps J' Q e a w
 | .goto l, a, w, hj => h l a w hj
 | .normal, _, _, hj => hj
 | .exit _, _, _, hj => hj
 | .ret, _, _, hj => hj
 | .panic _, _, _, hj => hj
 | .outgrown, _, _, hj => hj
theorem wp_scope_fuel2 {c : Code} (J : Nat → Nat → Act → World → Prop) (l1 : Nat)
  (pass1 : ∀ n a w, J n l1 a w → ∃ x', findLabel c l1 = some (Code.skip.seq x') ∧ x'.wp P (Exit.jumps (fun l' a' w' => ∃ n', n' < n ∧ J n' l' a' w') Q) a w)
  (pass : (∀ n m a w x', n ≤ m → J n l1 a w → findLabel c l1 = some (Code.skip.seq x') → x'.wp P (Exit.jumps (fun l' a' w' => ∃ n', n' < m ∧ J n' l' a' w') Q) a w) → ∀ n l a w, l ≠ l1 → J n l a w →
   ∃ x', findLabel c l = some (Code.skip.seq x') ∧ x'.wp P (Exit.jumps (fun l' a' w' => ∃ n', n' < n ∧ J n' l' a' w') Q) a w)
  (first : (∀ n l a w x', J n l a w → findLabel c l = some (Code.skip.seq x') → x'.wp P (Exit.jumps (fun l' a' w' => ∃ n', J n' l' a' w') Q) a w) → c.wp P (Exit.jumps (fun l' a' w' => ∃ n', J n' l' a' w') Q) a w) : (Code.scope c).wp P Q a w := by
 have all : ∀ n l a w, J n l a w → ∃ x', findLabel c l = some (Code.skip.seq x') ∧ x'.wp P (Exit.jumps (fun l' a' w' => ∃ n', n' < n ∧ J n' l' a' w') Q) a w := by
  intro n l a w hJ
  by_cases hl : l = l1
  ·subst hl; exact pass1 n a w hJ
  ·refine pass (fun n m a w x' hm hj hf => ?_) n l a w hl hJ
   obtain ⟨y, hy, hw⟩ := pass1 n a w hj
   rw [hf] at hy
   injection hy with hy
   injection hy with _ hy
   subst hy
   exact wp_mono hw (Exit.jumps_mono fun l a w ⟨k, hk, hj⟩ => ⟨k, by omega, hj⟩)
 refine wp_scope_fuel J (first fun n l a w x' hj hf => ?_) (fun n l a w hJ => ?_)
 ·obtain ⟨y, hy, hw⟩ := all n l a w hj
  rw [hf] at hy
  injection hy with hy
  injection hy with _ hy
  subst hy
  exact wp_mono hw (Exit.jumps_mono fun l a w ⟨k, _, hj⟩ => ⟨k, hj⟩)
 ·obtain ⟨y, hy, hw⟩ := all n l a w hJ
  exact ⟨_, hy, wp_seq (wp_skip hw)⟩
end
end Go
namespace Go.Proofs.Ytecljchifebljaa
open Go.RowKit
/-- What Read leaves. -/
def RetRead (w0 : World) (R : Rs) (e : Ending) (w : World) : Prop :=
 Below w0.heap.size w0 w ∧ match R with
 | .ok ds => ∃ v, e = .returned (.tuple #[v, .int .i64 0, .int .i64 0]) ∧ LAt (fun g => w0.heap.size ≤ g) w v ds
 | .err c p => e = .returned (.tuple #[.slice none 0 0, .int .i64 p, .int .i64 c])
end Go.Proofs.Ytecljchifebljaa
namespace Go.Proofs.Ytecljchifebljaa
open Go.RowKit
theorem byte_at (s : ByteArray) (i : Nat) (h : i < s.size) : s.data.toList[i]? = some s[i] := by
 rw [List.getElem?_eq_getElem (by rw [← Lib.size_eq]; exact h)]
 simp
 rfl
theorem setRow_box (w : World) (g : Nat) (C cs : Array Value) (h : w.heap[g]? = some (.cells C 29 (0, 0))) : (w.setRow g cs).heap[g]? = some (.cells cs 29 (0, 0)) := setRow_heap w g C cs 29 (0, 0) h
end Go.Proofs.Ytecljchifebljaa
namespace Go.Proofs.Ytecljchifebljaa
open Go.RowKit Go.BigM
/-- The reader's state lies at g: the text, the place, what is open, what is done. -/
def Rs3 (w : World) (g : Nat) (s : ByteArray) (p : Nat) (ov dv : Value) : Prop := w.heap[g]? = some (.cells #[.string s, .int .i64 (p : Int), ov, dv] 114 (0, 0))
theorem Rs3.lt {w : World} {g p : Nat} {s : ByteArray} {ov dv : Value} (h : Rs3 w g s p ov dv) : g < w.heap.size := (Array.getElem?_eq_some_iff.1 h).1
theorem Rs3.cells {w : World} {g p : Nat} {s : ByteArray} {ov dv : Value} (h : Rs3 w g s p ov dv) : w.cell? ⟨g, 0, none⟩ = some (.string s) ∧ w.cell? ⟨g, 1, none⟩ = some (.int .i64 (p : Int)) ∧ w.cell? ⟨g, 2, none⟩ = some ov ∧ w.cell? ⟨g, 3, none⟩ = some dv := by
 unfold Rs3 at h
 refine ⟨?_, ?_, ?_, ?_⟩ <;> (rw [Lib.cell_of_heap h]; rfl)
/-- Only the block g has turned; no block came. -/
structure Only (g : Nat) (w w' : World) : Prop where
 os : w'.os = w.os
 tape : w'.tape = w.tape
 output : w'.output = w.output
 size : w'.heap.size = w.heap.size
 block : ∀ k, k ≠ g → w'.heap[k]? = w.heap[k]?
theorem Only.refl (g : Nat) (w : World) : Only g w w := ⟨rfl, rfl, rfl, rfl, fun _ _ => rfl⟩
theorem Only.trans {g : Nat} {a b c : World} (h : Only g a b) (k : Only g b c) : Only g a c := ⟨k.os.trans h.os, k.tape.trans h.tape, k.output.trans h.output, k.size.trans h.size, fun x hx => (k.block x hx).trans (h.block x hx)⟩
theorem Only.set (g o : Nat) (v : Value) (w : World) : Only g w (w.setCell ⟨g, o, none⟩ v) := ⟨rfl, rfl, rfl, by simp [World.setCell], fun k hk => Below.heap_setCell w _ v k (fun e => hk e)⟩
/-- The place turns. -/
theorem Rs3.setP {w : World} {g p : Nat} {s : ByteArray} {ov dv : Value} (h : Rs3 w g s p ov dv) (q : Nat) : Rs3 (w.setCell ⟨g, 1, none⟩ (.int .i64 (q : Int))) g s q ov dv := by
 have := heap_setCell_same w g 1 _ 114 (.int .i64 (q : Int)) h
 unfold Rs3; rw [this]; rfl
theorem gap_blank {c : UInt8} (l : List UInt8) (h : c = 32 ∨ c = 9 ∨ c = 10) : gapOf false (c :: l) = 1 + gapOf false l := by
 rcases h with rfl | rfl | rfl <;> simp [gapOf]
theorem gap_semi (l : List UInt8) : gapOf true (59 :: l) = gapOf false (59 :: l) := by simp [gapOf]
theorem gap_in {c : UInt8} (l : List UInt8) (h : c ≠ 10) : gapOf true (c :: l) = 1 + gapOf true l := by
 have : (c != 10) = true := by simpa using h
 simp [gapOf, this]
theorem gap_out (l : List UInt8) : gapOf true (10 :: l) = gapOf false (10 :: l) := by simp [gapOf]
theorem gap_stop {c : UInt8} (l : List UInt8) (h : ¬ (c = 32 ∨ c = 9 ∨ c = 10)) (h2 : c ≠ 59) : gapOf false (c :: l) = 0 := by
 have h3 : (c == 59) = false := by simpa using h2
 have h4 : ([9, 10, 32] : List UInt8).contains c = false := by
  simp only [List.contains_cons, List.contains_nil, Bool.or_false, Bool.or_eq_false_iff, beq_eq_false_iff_ne, ne_eq]
  exact ⟨fun e => h (.inr (.inl e)), fun e => h (.inr (.inr e)), fun e => h (.inl e)⟩
 unfold gapOf
 rw [h3, h4]
 rfl
theorem u8_all {P : UInt8 → Prop} (h : ∀ n : Fin 256, P (UInt8.ofNat n.1)) (c : UInt8) : P c := by
 have h1 := h ⟨c.toNat, c.toNat_lt⟩
 have h2 : UInt8.ofNat c.toNat = c := by simp
 rw [h2] at h1
 exact h1
end Go.Proofs.Ytecljchifebljaa
