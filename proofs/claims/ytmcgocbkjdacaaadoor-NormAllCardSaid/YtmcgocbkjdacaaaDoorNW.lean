/- slices.Backward over values with names. -/
import Derived.RangeFuncNested
import Derived.RangeFuncFrom
import Derived.RangeFuncBound
import Derived.RangeFuncCalls
import Derived.RangeFuncLeaves
import Derived.Shelf.Abstract
import Derived.Shelf.RegionOpen
import Derived.WalkKit
import Derived.OwnWalkIn
import Derived.TacticsInMore
import Derived.LoopNIn
import Derived.LoopIn
import Derived.Test.YtmcgocbkjdacaaaDoorNR
import Derived.Lib.Hide
namespace Go.Proofs.YtmcgocbkjdacaaaDoor
open Go.RowKit Go.Shelf
set_option linter.unusedVariables false
set_option linter.unusedSimpArgs false
attribute [local go_sem] Oper.semAt_some
/-- The values of a slice, as its cells hold them. -/
structure Vals (n : Nat) where
  s : Nat → ByteArray
  k : Nat → Int
  t : Nat → ByteArray
  no : Nat → Option Addr
  nn : Nat → Nat
  nc : Nat → Nat
  ao : Nat → Option Addr
  an : Nat → Nat
  ac : Nat → Nat
def Vals.row {n : Nat} (V : Vals n) (j : Nat) : Array Value := #[.string (V.s j), .int .i64 (V.k j), .string (V.t j), .slice (V.no j) (V.nn j) (V.nc j), .slice (V.ao j) (V.an j) (V.ac j)]
def Vals.enc {n : Nat} (V : Vals n) (x : Fin n) : Array Value := #[.int .i64 (x.1 : Int), .agg (V.row x.1)]
/-- What has come when k rounds are over: the last ones first. -/
def downTo (n k : Nat) (h : k ≤ n) : List (Fin n) := (List.range k).attach.map fun i => ⟨n - 1 - i.1, by have := List.mem_range.1 i.2; omega⟩
theorem downTo_succ (n k : Nat) (h : k + 1 ≤ n) : downTo n (k + 1) h = downTo n k (by omega) ++ [⟨n - 1 - k, by omega⟩] := by
  unfold downTo
  apply List.ext_getElem
  · simp
  · intro i h1 h2
    simp at h1 h2 ⊢
    by_cases hi : i < k
    · rw [List.getElem_append_left (by simpa using hi)]; simp
    · have : i = k := by omega
      subst this
      rw [List.getElem_append_right (by simp)]; simp
theorem downTo_len (n k : Nat) (h : k ≤ n) : (downTo n k h).length = k := by simp [downTo]
/-- The cells of the values. -/
def ValsAt (n₀ : Nat) (W : World) (b off : Nat) {n : Nat} (V : Vals n) : Prop :=
  b < n₀ ∧ ∀ j, j < n → W.cell? ⟨b, off + j * 5, none⟩ = some (.string (V.s j)) ∧ W.cell? ⟨b, off + j * 5 + 1, none⟩ = some (.int .i64 (V.k j)) ∧ W.cell? ⟨b, off + j * 5 + 2, none⟩ = some (.string (V.t j)) ∧ W.cell? ⟨b, off + j * 5 + 3, none⟩ = some (.slice (V.no j) (V.nn j) (V.nc j)) ∧ W.cell? ⟨b, off + j * 5 + 4, none⟩ = some (.slice (V.ao j) (V.an j) (V.ac j))
theorem ValsAt.below {n₀ : Nat} {A B : World} {b off n : Nat} {V : Vals n} (h : ValsAt n₀ A b off V) (hb : Below n₀ A B) : ValsAt n₀ B b off V :=
  ⟨h.1, fun j hj => by
    obtain ⟨h1, h2, h3, h4, h5⟩ := h.2 j hj
    exact ⟨(hb.cell (p := ⟨b, _, none⟩) h.1).trans h1, (hb.cell (p := ⟨b, _, none⟩) h.1).trans h2, (hb.cell (p := ⟨b, _, none⟩) h.1).trans h3, (hb.cell (p := ⟨b, _, none⟩) h.1).trans h4, (hb.cell (p := ⟨b, _, none⟩) h.1).trans h5⟩⟩
/-- What a round keeps: blocks below n₀, and the box of the slice. -/
def KpB (n₀ Bs : Nat) (A B : World) : Prop := Below n₀ A B ∧ B.heap[Bs]? = A.heap[Bs]?
theorem KpB.refl (n₀ Bs : Nat) (A : World) : KpB n₀ Bs A A := ⟨Below.refl _ _, rfl⟩
theorem KpB.trans {n₀ Bs : Nat} {A B C : World} (h : KpB n₀ Bs A B) (k : KpB n₀ Bs B C) : KpB n₀ Bs A C := ⟨h.1.trans k.1, k.2.trans h.2⟩
theorem KpB.cell {n₀ Bs : Nat} {A B : World} (h : KpB n₀ Bs A B) (o : Nat) : B.cell? ⟨Bs, o, none⟩ = A.cell? ⟨Bs, o, none⟩ := by
  unfold World.cell?; simp only [h.2]
set_option maxRecDepth 100000 in
set_option maxHeartbeats 4000000 in
theorem back1_in (F : Fence) (n : Nat) (h7 : F.fn 59) (hro : F.round = none) (hn : 1 ≤ n) (l Bs n₀ b off cap len : Nat) (V : Vals len) (hreach : len ≤ 100000) (J Jx : List (Fin len) → World → Prop)
    (hY : ∀ pre x W, J pre W → pre.length < len → YieldAt F (n - 1) Tryd.prog l (V.enc x) W fun e W' =>
      (e = .returned (.bool true) ∧ J (pre ++ [x]) W' ∧ KpB n₀ Bs W W') ∨ (e = .returned (.bool false) ∧ Jx (pre ++ [x]) W'))
    (W : World) (hBs : W.cell? ⟨Bs, 0, none⟩ = some (.slice (some ⟨b, off, none⟩) len cap)) (hc : ValsAt n₀ W b off V) (h0 : J [] W) :
    CallsIn F n Tryd.prog 59 #[.func (.yield l) #[] #[], .pointer (some ⟨Bs, 0, none⟩)] W fun e W' => (∃ v, e = .returned v) ∧
      ((∃ ys, ys = downTo len len (Nat.le_refl _) ∧ J ys W') ∨ (∃ pre, Jx pre W')) := by
  refine callsIn_of_wp Tryd.func59 rfl h7 ?_ hro
  simp only [Tryd.ntmps59, List.size_toArray, List.length_cons, List.length_nil, Nat.reduceAdd, Nat.reduceSub, Array.replicate_succ, Array.replicate_zero, List.push_toArray, List.append_toArray, List.nil_append, List.cons_append]
  gi_wp2
  gi_loopw [3] (fun i wr => ∃ (k : Nat) (hk : k ≤ len), i = .int .i64 ((len : Int) - 1 - (k : Int)) ∧ J (downTo len k hk) wr ∧ KpB n₀ Bs W wr)
    (fun i _ => (intOf i + 1).toNat)
  case atStart => exact ⟨0, Nat.zero_le _, by simp, h0, KpB.refl _ _ _⟩
  case round =>
    obtain ⟨k, hk, rfl, hJs, hnx⟩ := hrel
    have hB1 : wr.cell? ⟨Bs, 0, none⟩ = some (.slice (some ⟨b, off, none⟩) len cap) := (hnx.cell 0).trans hBs
    by_cases hlt : k < len
    · obtain ⟨j, hj⟩ : ∃ j, j = len - 1 - k := ⟨_, rfl⟩
      have hjl : j < len := by omega
      have e1 : (len : Int) - 1 - (k : Int) = (j : Int) := by omega
      rw [e1]
      obtain ⟨c0, c1, c2, c3, c4⟩ := (hc.below hnx.1).2 j hjl
      obtain ⟨fn, tmps, assign, body, hy, hR⟩ := hY _ ⟨j, hjl⟩ wr hJs (by rw [downTo_len]; exact hlt)
      dsimp only [Vals.enc, Vals.row] at hy
      have q1 : decide ((0 : Int) ≤ (j : Int)) = true := decide_eq_true (by omega)
      have HJ := Lib.hid hj
      have HNX := Lib.hid hnx
      clear hj e1 hnx hc
      gi_wp2
      refine hR.mono ?_
      rintro e W3 (⟨rfl, hJ3, hk3⟩ | ⟨rfl, hJx3⟩)
      · gi_wp2
        go_roundw
        case rel => exact ⟨k + 1, by omega, by have := HJ.out; first | (congr 1; done) | (congr 1; omega), by have hj := HJ.out; subst hj; rw [downTo_succ]; exact hJ3, HNX.out.trans hk3⟩
        case measure => have := HJ.out; simp [intOf]
      · gi_wp2
        refine bodyPost_ret (results_none rfl _ _ _) rfl ?_
        exact ⟨⟨_, rfl⟩, .inr ⟨_, hJx3⟩⟩
    · obtain rfl : k = len := by omega
      have e1 : (k : Int) - 1 - (k : Int) = -1 := by omega
      rw [e1]
      gi_wp2
      go_end0
      exact ⟨⟨_, rfl⟩, .inl ⟨_, rfl, hJs⟩⟩
set_option maxRecDepth 100000 in
set_option maxHeartbeats 1000000 in
theorem back1_nil_in (F : Fence) (n : Nat) (h7 : F.fn 59) (hro : F.round = none) (l Bs : Nat) (J : List (Fin 0) → World → Prop) (W : World) (hBs : W.cell? ⟨Bs, 0, none⟩ = some (.slice none 0 0)) (h0 : J [] W) :
    CallsIn F n Tryd.prog 59 #[.func (.yield l) #[] #[], .pointer (some ⟨Bs, 0, none⟩)] W fun e W' => (∃ v, e = .returned v) ∧ J [] W' := by
  refine callsIn_of_wp Tryd.func59 rfl h7 ?_ hro
  simp only [Tryd.ntmps59, List.size_toArray, List.length_cons, List.length_nil, Nat.reduceAdd, Nat.reduceSub, Array.replicate_succ, Array.replicate_zero, List.push_toArray, List.append_toArray, List.nil_append, List.cons_append]
  gi_wp2
  gi_loopw [3] (fun i wr => i = .int .i64 (-1) ∧ J [] wr) (fun _ _ => 0)
  case atStart => exact ⟨rfl, h0⟩
  case round =>
    obtain ⟨rfl, hJs⟩ := hrel
    gi_wp2
    go_end0
    exact ⟨⟨_, rfl⟩, hJs⟩
/-- slices.Backward hands back its closure over a box of the slice. -/
theorem back_any (a : Option Addr) (len cap : Nat) (w : World) : Calls Tryd.prog 56 #[.slice a len cap] w fun e w' => e = .returned (.func (.func 59) #[] #[.pointer (some ⟨w.heap.size, 0, none⟩)]) ∧ w' = w.alloc (.cells #[.slice a len cap] 73) := by
  go_enter Tryd.func56, Tryd.ntmps56
  go_wp2_with fail
  go_ret
  exact ⟨rfl, rfl⟩
theorem back_stops (F : Fence) (n : Nat) (h7 : F.fn 59) (hro : F.round = none) (hn : 1 ≤ n) (Bs n₀ b off cap len : Nat) (V : Vals len) (hreach : len ≤ 100000) (w : World) (hBs : Bs < w.heap.size) (hn₀ : n₀ ≤ w.heap.size)
    (hc : w.cell? ⟨Bs, 0, none⟩ = some (.slice (some ⟨b, off, none⟩) len cap)) (hI : ValsAt n₀ w b off V) :
    SeqStopsK F n Tryd.prog 59 #[.pointer (some ⟨Bs, 0, none⟩)] V.enc (KpB n₀ Bs) (fun ys => ys = downTo len len (Nat.le_refl _)) (fun _ => True) len w := fun l J Jx W hW _ _ hY h0 => by
  refine (back1_in F n h7 hro hn l Bs n₀ b off cap len V hreach J Jx hY W ((hW.cell (p := ⟨Bs, 0, none⟩) hBs).trans hc) (hI.below (hW.mono hn₀)) h0).mono ?_
  rintro e W' ⟨he, h | ⟨pre, h⟩⟩
  · exact ⟨he, .inl h⟩
  · exact ⟨he, .inr ⟨pre, trivial, h⟩⟩
theorem back_stops_nil (F : Fence) (n : Nat) (h7 : F.fn 59) (hro : F.round = none) (Bs n₀ : Nat) (V : Vals 0) (w : World) (hBs : Bs < w.heap.size) (hc : w.cell? ⟨Bs, 0, none⟩ = some (.slice none 0 0)) :
    SeqStopsK F n Tryd.prog 59 #[.pointer (some ⟨Bs, 0, none⟩)] V.enc (KpB n₀ Bs) (fun ys => ys = downTo 0 0 (Nat.le_refl _)) (fun _ => True) 0 w := fun l J Jx W hW _ _ hY h0 => by
  refine (back1_nil_in F n h7 hro l Bs J W ((hW.cell (p := ⟨Bs, 0, none⟩) hBs).trans hc) h0).mono ?_
  rintro e W' ⟨he, h⟩
  exact ⟨he, .inl ⟨[], rfl, h⟩⟩
end Go.Proofs.YtmcgocbkjdacaaaDoor
