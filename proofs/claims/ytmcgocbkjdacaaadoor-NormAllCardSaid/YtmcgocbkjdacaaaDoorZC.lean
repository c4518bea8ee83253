/- What is around: the map of counts; enter, leave, has. -/
import Derived.Test.YtmcgocbkjdacaaaDoorSH
import Derived.Test.YtmcgocbkjdacaaaDoorZA
import Derived.Maps.OwnSet
import Derived.Maps.Views
import Derived.Test.YtmcgocbkjdacaaaDoorZD
import Derived.Test.YtmcgocbkjdacaaaDoorMN1
import Derived.Test.YtmcgocbkjdacaaaDoorM0
import Derived.Test.YtmcgocbkjdacaaaDoorZB
namespace Go.Proofs.YtmcgocbkjdacaaaDoor
open Go.RowKit
open Go.Maps
open Go.WideMaps (keyOf_string_mk)
set_option linter.unusedVariables false
set_option linter.unusedSimpArgs false
def cnt (s : ByteArray) (ns : List ByteArray) : Nat := ns.countP fun x => decide (x = s)
theorem cnt_snoc (s x : ByteArray) (l : List ByteArray) : cnt s (l ++ [x]) = cnt s l + if x = s then 1 else 0 := by
  unfold cnt; rw [List.countP_append]; simp [List.countP_cons]
theorem cnt_cons (s x : ByteArray) (l : List ByteArray) : cnt s (x :: l) = cnt s l + if x = s then 1 else 0 := by
  unfold cnt; simp [List.countP_cons]
theorem cnt_zero (s : ByteArray) (l : List ByteArray) : cnt s l = 0 ↔ s ∉ l := by
  unfold cnt
  rw [List.countP_eq_zero]
  constructor
  · intro h hs; have h1 := h s hs; simp at h1
  · intro h x hx; simp; rintro rfl; exact h hx
theorem cnt_le (s : ByteArray) (l : List ByteArray) : cnt s l ≤ l.length := List.countP_le_length
theorem own_heap {w w' : World} {R : Value → Option (DataW Unit × List MemPlace)} {b n : Nat} {D : DataW Unit} (h : w.ownsMap Tryd.prog 9 R b n D) (hb : w'.heap[b]? = w.heap[b]?) : w'.ownsMap Tryd.prog 9 R b n D := by
  obtain ⟨es, clock, h1, r⟩ := h
  exact ⟨es, clock, by rw [hb]; exact h1, r⟩
theorem keeps_map {S : Nat → Prop} {w w' : World} {ma : Nat} (hm : ∃ es clock, w.heap[ma]? = some (.map es clock)) (h : But w.heap.size ma w w') : Keeps S w w' := by
  intro g c T fz _ hg _
  obtain ⟨es, clock, hm⟩ := hm
  refine ⟨fz, ?_⟩
  rw [h.block g (Array.getElem?_eq_some_iff.1 hg).1 (by rintro rfl; rw [hm] at hg; cases hg)]; exact hg
theorem lit_inj {a b : Int} (h : (DataW.lit (.int .i64 a) : DataW Unit) = .lit (.int .i64 b)) : a = b := by
  injection h with h
  injection h
theorem zero3 (w : World) : (zeroValue 3).run Tryd.prog w = .ok (.int .i64 0) w := by kernel_rfl
theorem litS_key (s : ByteArray) : WideAt.IsKeyLit (litS s) := trivial
theorem but_grown {w w1 : World} {ma : Nat} {W : World} (h : But W.heap.size ma W w) (hg : w.grownBy w1 (some ma)) : But W.heap.size ma W w1 :=
  ⟨hg.os.trans h.os, hg.tape.trans h.tape, hg.output.trans h.output, Nat.le_trans h.size hg.size, fun k hk hne => by rw [hg.block k (Nat.lt_of_lt_of_le hk h.size) (fun e => hne (by injection e)), h.block k hk hne]⟩
end Go.Proofs.YtmcgocbkjdacaaaDoor
namespace Go.Proofs.YtmcgocbkjdacaaaDoor
open Go.RowKit
open Go.Maps
open Go.WideMaps (keyOf_string_mk)
set_option linter.unusedVariables false
set_option linter.unusedSimpArgs false
theorem keeps_maps {S : Nat → Prop} {w w' : World} {ma mf : Nat} (hm : ∃ es clock, w.heap[ma]? = some (.map es clock)) (hf : ∃ es clock, w.heap[mf]? = some (.map es clock)) (h : But2 w.heap.size ma mf w w') : Keeps S w w' := by
  intro g c T fz _ hg _
  obtain ⟨es, clock, hm⟩ := hm
  obtain ⟨es2, clock2, hf⟩ := hf
  refine ⟨fz, ?_⟩
  rw [h.block g (Array.getElem?_eq_some_iff.1 hg).1 (by rintro rfl; rw [hm] at hg; cases hg) (by rintro rfl; rw [hf] at hg; cases hg)]; exact hg
theorem row_but2 {w w' : World} {ma mf : Nat} (h : But2 w.heap.size ma mf w w') {g : Nat} {c : Array Value} {T : TypeId} {fz : Nat × Nat} (hg : w.heap[g]? = some (.cells c T fz)) (h1 : g ≠ ma) (h2 : g ≠ mf) : w'.heap[g]? = some (.cells c T fz) := by
  rw [h.block g (Array.getElem?_eq_some_iff.1 hg).1 h1 h2]; exact hg
theorem frs_snoc (s : ByteArray) (l : List Et) (e : Et) : Et.frs s (l ++ [e]) ↔ Et.frs s l ∨ e.fr s := by
  rw [frs_iff, frs_iff]; simp [or_and_right, exists_or]
end Go.Proofs.YtmcgocbkjdacaaaDoor
namespace Go.Proofs.YtmcgocbkjdacaaaDoor
open Go.RowKit
open Go.Maps
set_option linter.unusedVariables false
set_option linter.unusedSimpArgs false
/-- Names in rising order of bytes, none twice. -/
def Srt (l : List ByteArray) : Prop := l.Pairwise fun a b => a.data.toList < b.data.toList
theorem srt_ext : ∀ {a b : List ByteArray}, Srt a → Srt b → (∀ s, s ∈ a ↔ s ∈ b) → a = b := by
  intro a b ha hb h
  have h1 : ∀ {l : List ByteArray}, Srt l → l.Nodup := fun {l} hl => hl.imp fun {x y} hxy e => by subst e; exact absurd hxy (List.lt_irrefl _)
  exact List.Perm.eq_of_pairwise (le := fun (a b : ByteArray) => a.data.toList < b.data.toList) (fun x y _ _ hx hy => absurd (List.lt_trans (show x.data.toList < y.data.toList from hx) (show y.data.toList < x.data.toList from hy)) (List.lt_irrefl _)) ha hb ((List.perm_ext_iff_of_nodup (h1 ha) (h1 hb)).2 h)
def RetFree (e : Et) (w : World) (r : Ending) (w' : World) : Prop :=
  ∃ v L, r = .returned v ∧ NAt (fun g => w.heap.size ≤ g) w' v L ∧ Srt L ∧ (∀ s, s ∈ L ↔ e.fr s) ∧ Below w.heap.size w w'
theorem ba_of (x : List UInt8) : (⟨x.toArray⟩ : ByteArray).data.toList = x := by simp
end Go.Proofs.YtmcgocbkjdacaaaDoor
namespace Go.Proofs.YtmcgocbkjdacaaaDoor
open Go.RowKit
set_option linter.unusedVariables false
set_option linter.unusedSimpArgs false
/-- Texts, parted by blanks. -/
def jn : List ByteArray → List UInt8
  | [] => []
  | [s] => s.data.toList
  | s :: l => s.data.toList ++ 32 :: jn l
mutual
/-- The text of a term. -/
def Et.wr : Et → List UInt8
  | .mk k t ns a =>
    if k = 3 then [40, 41] else if k = 4 then 39 :: t.data.toList
    else if k = 6 then 40 :: ([108, 97, 109, 98, 100, 97, 32, 40] ++ jn ns ++ [41]) ++ Et.wrs true a ++ [41]
    else if k = 7 then 40 :: Et.wrs false a ++ [41]
    else if k = 8 then 40 :: [105, 102] ++ Et.wrs true a ++ [41]
    else if k = 9 then [40, 108, 101, 116, 32, 40] ++ Et.wrb false ns a ++ [41] ++ Et.wrl ns a ++ [41]
    else if k = 10 then 40 :: t.data.toList ++ Et.wrs true a ++ [41]
    else t.data.toList
/-- Terms, each behind a blank; ahead of the first one only if there is something. -/
def Et.wrs (b : Bool) : List Et → List UInt8
  | [] => []
  | e :: l => (if b then [32] else []) ++ e.wr ++ Et.wrs true l
/-- Names with their values, in brackets. -/
def Et.wrb (b : Bool) : List ByteArray → List Et → List UInt8
  | s :: ns, e :: l => (if b then [32] else []) ++ (40 :: s.data.toList ++ 32 :: e.wr ++ [41]) ++ Et.wrb true ns l
  | _, _ => []
/-- What is left behind the values. -/
def Et.wrl : List ByteArray → List Et → List UInt8
  | [], e :: l => 32 :: e.wr ++ Et.wrl [] l
  | _ :: ns, _ :: l => Et.wrl ns l
  | _, [] => []
end
theorem wr_mk (k : Int) (t : ByteArray) (ns : List ByteArray) (a : List Et) : (Et.mk k t ns a).wr =
    if k = 3 then [40, 41] else if k = 4 then 39 :: t.data.toList
    else if k = 6 then 40 :: ([108, 97, 109, 98, 100, 97, 32, 40] ++ jn ns ++ [41]) ++ Et.wrs true a ++ [41]
    else if k = 7 then 40 :: Et.wrs false a ++ [41]
    else if k = 8 then 40 :: [105, 102] ++ Et.wrs true a ++ [41]
    else if k = 9 then [40, 108, 101, 116, 32, 40] ++ Et.wrb false ns a ++ [41] ++ Et.wrl ns a ++ [41]
    else if k = 10 then 40 :: t.data.toList ++ Et.wrs true a ++ [41]
    else t.data.toList := by conv => lhs; unfold Et.wr
theorem wrs_snoc : ∀ (l : List Et) (b : Bool) (e : Et), Et.wrs b (l ++ [e]) = Et.wrs b l ++ ((if b || decide (0 < l.length) then [32] else []) ++ e.wr)
  | [], b, e => by simp [Et.wrs]
  | d :: l, b, e => by
    simp only [List.cons_append, Et.wrs, wrs_snoc l true e]
    simp
theorem wrs_take (l : List Et) (b : Bool) (j : Nat) (h : j < l.length) : Et.wrs b (l.take (j + 1)) = Et.wrs b (l.take j) ++ ((if b || decide (0 < j) then [32] else []) ++ l[j].wr) := by
  rw [take_snoc_et l j h, wrs_snoc, List.length_take, Nat.min_eq_left (by omega)]
theorem wrs_take_le : ∀ (l : List Et) (b : Bool) (j : Nat), (Et.wrs b (l.take j)).length ≤ (Et.wrs b l).length
  | [], b, j => by simp
  | d :: l, b, 0 => by simp [Et.wrs]
  | d :: l, b, j + 1 => by
    have := wrs_take_le l true j
    simp only [List.take_succ_cons, Et.wrs, List.length_append]; omega
theorem wrb_take : ∀ (ns : List ByteArray) (l : List Et) (b : Bool) (j : Nat) (h : j < l.length) (hn : j < ns.length),
    Et.wrb b (ns.take (j + 1)) (l.take (j + 1)) = Et.wrb b (ns.take j) (l.take j) ++ ((if b || decide (0 < j) then [32] else []) ++ (40 :: ns[j].data.toList ++ 32 :: l[j].wr ++ [41]))
  | [], l, b, j, h, hn => by simp at hn
  | s :: ns, [], b, j, h, hn => by simp at h
  | s :: ns, d :: l, b, 0, h, hn => by simp [Et.wrb]
  | s :: ns, d :: l, b, j + 1, h, hn => by
    have := wrb_take ns l true j (by simpa using h) (by simpa using hn)
    simp only [List.take_succ_cons, Et.wrb] at this ⊢
    rw [this]
    simp
theorem wrb_take_le : ∀ (ns : List ByteArray) (l : List Et) (b : Bool) (j : Nat), (Et.wrb b (ns.take j) (l.take j)).length ≤ (Et.wrb b ns l).length
  | [], l, b, j => by simp [Et.wrb]
  | s :: ns, [], b, j => by simp [Et.wrb]
  | s :: ns, d :: l, b, 0 => by simp [Et.wrb]
  | s :: ns, d :: l, b, j + 1 => by
    have := wrb_take_le ns l true j
    simp only [List.take_succ_cons, Et.wrb, List.length_append]; omega
theorem wrb_short : ∀ (ns : List ByteArray) (l : List Et) (b : Bool), Et.wrb b ns (l.take ns.length) = Et.wrb b ns l
  | [], l, b => by simp [Et.wrb]
  | s :: ns, [], b => by simp
  | s :: ns, d :: l, b => by simp only [List.length_cons, List.take_succ_cons, Et.wrb, wrb_short ns l true]
theorem wrl_last : ∀ (ns : List ByteArray) (l : List Et) (h : ns.length < l.length), l.length = ns.length + 1 → Et.wrl ns l = 32 :: l[ns.length].wr
  | [], [], h, _ => by simp at h
  | [], [e], h, _ => by simp [Et.wrl]
  | [], e :: f :: l, h, h2 => by simp at h2
  | s :: ns, [], h, _ => by simp at h
  | s :: ns, e :: l, h, h2 => by
    have := wrl_last ns l (by simpa using h) (by simpa using h2)
    simp only [Et.wrl, this, List.length_cons, List.getElem_cons_succ]
end Go.Proofs.YtmcgocbkjdacaaaDoor
namespace Go.Proofs.YtmcgocbkjdacaaaDoor
open Go.RowKit Go.BigM
set_option linter.unusedVariables false
set_option linter.unusedSimpArgs false
def fmt (head : ByteArray) (l : List Et) : List UInt8 := 40 :: head.data.toList ++ Et.wrs (!head.toList.isEmpty) l ++ [41]
end Go.Proofs.YtmcgocbkjdacaaaDoor
namespace Go.Proofs.YtmcgocbkjdacaaaDoor
open Go.RowKit Go.BigM
set_option linter.unusedVariables false
set_option linter.unusedSimpArgs false
def ltx (ns : List ByteArray) (l : List Et) : List UInt8 := [40, 108, 101, 116, 32, 40] ++ Et.wrb false ns l ++ [41] ++ Et.wrl ns l ++ [41]
end Go.Proofs.YtmcgocbkjdacaaaDoor
namespace Go.Proofs.YtmcgocbkjdacaaaDoor
open Go.RowKit Go.BigM
set_option linter.unusedVariables false
set_option linter.unusedSimpArgs false
theorem others_below {e : TypeId} {b : Option Nat} {w w' : World} (k : Below w.heap.size w w') : Lib.OthersKept e b w w' := fun i o hi _ _ => by
  rw [k.block i (Array.getElem?_eq_some_iff.1 hi).1]; exact hi
theorem arity_none : arity ⟨#[]⟩ = 0 := by simp [arity, arityIn, prims, Lib.toList_data]
end Go.Proofs.YtmcgocbkjdacaaaDoor
