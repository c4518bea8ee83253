/- How a term is written: the mathematics. -/
import Derived.Test.YtcalbcllmmoldaaT0
import Derived.Test.YtcalbcllmmoldaaW1
namespace Go.Proofs.Ytcalbcllmmoldaa
open Go.RowKit
set_option linter.unusedVariables false
set_option linter.unusedSimpArgs false
/-- Texts, parted by blanks. -/
def jn : List ByteArray → List UInt8
  | [] => []
  | [s] => s.data.toList
  | s :: l => s.data.toList ++ 32 :: jn l
mutual
/-- The text of a term. -/
def Et.wr : Et → List UInt8
  | .mk k t ns a =>
    if k = 3 then [40, 41] else if k = 4 then 39 :: t.data.toList
    else if k = 6 then 40 :: ([108, 97, 109, 98, 100, 97, 32, 40] ++ jn ns ++ [41]) ++ Et.wrs true a ++ [41]
    else if k = 7 then 40 :: Et.wrs false a ++ [41]
    else if k = 8 then 40 :: [105, 102] ++ Et.wrs true a ++ [41]
    else if k = 9 then [40, 108, 101, 116, 32, 40] ++ Et.wrb false ns a ++ [41] ++ Et.wrl ns a ++ [41]
    else if k = 10 then 40 :: t.data.toList ++ Et.wrs true a ++ [41]
    else t.data.toList
/-- Terms, each behind a blank; ahead of the first one only if there is something. -/
def Et.wrs (b : Bool) : List Et → List UInt8
  | [] => []
  | e :: l => (if b then [32] else []) ++ e.wr ++ Et.wrs true l
/-- Names with their values, in brackets. -/
def Et.wrb (b : Bool) : List ByteArray → List Et → List UInt8
  | s :: ns, e :: l => (if b then [32] else []) ++ (40 :: s.data.toList ++ 32 :: e.wr ++ [41]) ++ Et.wrb true ns l
  | _, _ => []
/-- What is left behind the values. -/
def Et.wrl : List ByteArray → List Et → List UInt8
  | [], e :: l => 32 :: e.wr ++ Et.wrl [] l
  | _ :: ns, _ :: l => Et.wrl ns l
  | _, [] => []
end
theorem wr_mk (k : Int) (t : ByteArray) (ns : List ByteArray) (a : List Et) : (Et.mk k t ns a).wr =
    if k = 3 then [40, 41] else if k = 4 then 39 :: t.data.toList
    else if k = 6 then 40 :: ([108, 97, 109, 98, 100, 97, 32, 40] ++ jn ns ++ [41]) ++ Et.wrs true a ++ [41]
    else if k = 7 then 40 :: Et.wrs false a ++ [41]
    else if k = 8 then 40 :: [105, 102] ++ Et.wrs true a ++ [41]
    else if k = 9 then [40, 108, 101, 116, 32, 40] ++ Et.wrb false ns a ++ [41] ++ Et.wrl ns a ++ [41]
    else if k = 10 then 40 :: t.data.toList ++ Et.wrs true a ++ [41]
    else t.data.toList := by conv => lhs; unfold Et.wr
theorem wrs_snoc : ∀ (l : List Et) (b : Bool) (e : Et), Et.wrs b (l ++ [e]) = Et.wrs b l ++ ((if b || decide (0 < l.length) then [32] else []) ++ e.wr)
  | [], b, e => by simp [Et.wrs]
  | d :: l, b, e => by
    simp only [List.cons_append, Et.wrs, wrs_snoc l true e]
    simp
theorem wrs_take (l : List Et) (b : Bool) (j : Nat) (h : j < l.length) : Et.wrs b (l.take (j + 1)) = Et.wrs b (l.take j) ++ ((if b || decide (0 < j) then [32] else []) ++ l[j].wr) := by
  rw [take_snoc_et l j h, wrs_snoc, List.length_take, Nat.min_eq_left (by omega)]
theorem wrs_take_le : ∀ (l : List Et) (b : Bool) (j : Nat), (Et.wrs b (l.take j)).length ≤ (Et.wrs b l).length
  | [], b, j => by simp
  | d :: l, b, 0 => by simp [Et.wrs]
  | d :: l, b, j + 1 => by
    have := wrs_take_le l true j
    simp only [List.take_succ_cons, Et.wrs, List.length_append]; omega
theorem wrb_take : ∀ (ns : List ByteArray) (l : List Et) (b : Bool) (j : Nat) (h : j < l.length) (hn : j < ns.length),
    Et.wrb b (ns.take (j + 1)) (l.take (j + 1)) = Et.wrb b (ns.take j) (l.take j) ++ ((if b || decide (0 < j) then [32] else []) ++ (40 :: ns[j].data.toList ++ 32 :: l[j].wr ++ [41]))
  | [], l, b, j, h, hn => by simp at hn
  | s :: ns, [], b, j, h, hn => by simp at h
  | s :: ns, d :: l, b, 0, h, hn => by simp [Et.wrb]
  | s :: ns, d :: l, b, j + 1, h, hn => by
    have := wrb_take ns l true j (by simpa using h) (by simpa using hn)
    simp only [List.take_succ_cons, Et.wrb] at this ⊢
    rw [this]
    simp
theorem wrb_take_le : ∀ (ns : List ByteArray) (l : List Et) (b : Bool) (j : Nat), (Et.wrb b (ns.take j) (l.take j)).length ≤ (Et.wrb b ns l).length
  | [], l, b, j => by simp [Et.wrb]
  | s :: ns, [], b, j => by simp [Et.wrb]
  | s :: ns, d :: l, b, 0 => by simp [Et.wrb]
  | s :: ns, d :: l, b, j + 1 => by
    have := wrb_take_le ns l true j
    simp only [List.take_succ_cons, Et.wrb, List.length_append]; omega
theorem wrb_short : ∀ (ns : List ByteArray) (l : List Et) (b : Bool), Et.wrb b ns (l.take ns.length) = Et.wrb b ns l
  | [], l, b => by simp [Et.wrb]
  | s :: ns, [], b => by simp
  | s :: ns, d :: l, b => by simp only [List.length_cons, List.take_succ_cons, Et.wrb, wrb_short ns l true]
theorem wrl_last : ∀ (ns : List ByteArray) (l : List Et) (h : ns.length < l.length), l.length = ns.length + 1 → Et.wrl ns l = 32 :: l[ns.length].wr
  | [], [], h, _ => by simp at h
  | [], [e], h, _ => by simp [Et.wrl]
  | [], e :: f :: l, h, h2 => by simp at h2
  | s :: ns, [], h, _ => by simp at h
  | s :: ns, e :: l, h, h2 => by
    have := wrl_last ns l (by simpa using h) (by simpa using h2)
    simp only [Et.wrl, this, List.length_cons, List.getElem_cons_succ]
end Go.Proofs.Ytcalbcllmmoldaa
