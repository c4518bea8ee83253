/- Plain mathematics: digits, texts and limbs. Nothing of the program is named here. -/
import Derived.Test.YtecljchifebljaaProg
import Derived.WalkKit
import Derived.Lib.Hide
import Derived.Lib.TrimByte
import Derived.PlainAid
import Derived.Deep.RegionHeld
import Derived.OrdersHeld
import Derived.Lib.Strings
import Derived.Lib.Slices
import Derived.Lib.Walk
import Derived.Lib.Bytealg
import Derived.Laws.Externs
import Derived.Laws.ResultCell
import Derived.Laws.Rows
set_option linter.unusedVariables false
set_option linter.unusedSimpArgs false
namespace Go.BigM

/-- A byte is a digit. -/
def isD (c : UInt8) : Prop := 48 ≤ c.toNat ∧ c.toNat ≤ 57
instance (c : UInt8) : Decidable (isD c) := by unfold isD; infer_instance

/-- The base of a limb. -/
def B : Nat := 1000000000

/-- A text without the sign that it may begin with. -/
def strip (l : List UInt8) : List UInt8 := if l.head? = some 45 then l.tail else l
/-- Does it begin with the sign? -/
def low (l : List UInt8) : Bool := l.head? == some 45
theorem strip_low (l : List UInt8) (h : low l = true) : strip l = l.tail := by unfold strip low at *; rw [if_pos (by simpa using h)]
theorem strip_high (l : List UInt8) (h : low l = false) : strip l = l := by unfold strip low at *; rw [if_neg (by simpa using h)]
/-- A number's text: W1 of the document. -/
def Canon (l : List UInt8) : Prop := 1 ≤ (strip l).length ∧ (strip l).length ≤ 200 ∧ (∀ c ∈ strip l, isD c) ∧ ((strip l).head? ≠ some 48 ∨ l = [48])
instance (l : List UInt8) : Decidable (Canon l) := by unfold Canon; infer_instance
theorem strip_le (l : List UInt8) : (strip l).length ≤ l.length := by unfold strip; split <;> simp

/-- The digits of a number, the highest first; none of 0. -/
def digs (v : Nat) : List UInt8 := if h : v = 0 then [] else digs (v / 10) ++ [UInt8.ofNat (48 + v % 10)]
/-- What a number must be below. -/
def Lim : Nat := 10 ^ 200
/-- The text of a number, as a row of bytes; none if it has too many digits. -/
def txt (b : Bool) (v : Nat) : List UInt8 := if v = 0 then [48] else if v < Lim then (if b then 45 :: digs v else digs v) else []

end Go.BigM
namespace Go.Proofs.Ytecljchifebljaa
open Go.RowKit Go.BigM

theorem ret_int {k : IntKind} {a b : Int} (h : a = b) : Ending.returned (.int k a) = .returned (.int k b) := by rw [h]

theorem within2_any (a n : Int) (w : World) (h1 : -9223372036854775808 ≤ a) (h2 : a ≤ 9223372036854775807) (h3 : 1 ≤ n) (h4 : n ≤ 4000000000) :
  Calls Try.prog 52 #[.int .i64 a, .int .i64 n] w fun e w' => e = .returned (.int .i64 (a % n)) ∧ w = w' := by
 have hr := Int.emod_nonneg a (show n ≠ 0 by omega)
 have hl := Int.emod_lt_of_pos a (show 0 < n by omega)
 by_cases h : 0 ≤ a
 ·have ht := Int.tmod_eq_emod_of_nonneg (b := n) h
  go_enter Try.func52, Try.ntmps52
  go_wp2
  go_ret
  exact ⟨rfl, rfl⟩
 ·by_cases hd : a % n = 0
  ·have ht : a.tmod n = 0 := by rw [Int.tmod_eq_emod, if_pos (Or.inr (Int.dvd_of_emod_eq_zero hd))]; omega
   go_enter Try.func52, Try.ntmps52
   go_wp2
   go_ret
   exact ⟨ret_int (by omega), rfl⟩
  ·have ht : a.tmod n = a % n - n := by
    rw [Int.tmod_eq_emod, if_neg]
    ·omega
    ·rintro (h' | h')
     ·exact h h'
     ·exact hd (Int.emod_eq_zero_of_dvd h')
   have ht2 : a % n - n < 0 := by omega
   clear hd
   go_enter Try.func52, Try.ntmps52
   go_wp2
   go_ret
   exact ⟨ret_int (by omega), rfl⟩

theorem take_snoc (s : ByteArray) (k : Nat) (h : k < s.size) : s.data.toList.take (k + 1) = s.data.toList.take k ++ [s[k]] := by
 rw [List.take_succ_eq_append_getElem (by simpa using h)]; rfl

end Go.Proofs.Ytecljchifebljaa
namespace Go.Proofs.Ytecljchifebljaa
open Go Go.RowKit
theorem zt {α : Type} (xs : List α) (i : Nat) (h : i < xs.toArray.size) : xs.toArray[i] = xs[i]'(by simpa using h) := List.getElem_toArray h
theorem zs {α : Type} (a : α) (l : List α) (i : Nat) (h : i + 1 < (a :: l).length) : (a :: l)[i + 1] = l[i]'(Nat.lt_of_succ_lt_succ h) := List.getElem_cons_succ ..
theorem zz {α : Type} (a : α) (l : List α) (h : 0 < (a :: l).length) : (a :: l)[0] = a := List.getElem_cons_zero ..
theorem zi {α : Type} (l : List α) (i : Nat) (a : α) : l.toArray.setIfInBounds i a = (l.set i a).toArray := List.setIfInBounds_toArray ..
theorem zy {α : Type} (x : α) (xs : List α) (a : α) : (x :: xs).set 0 a = a :: xs := List.set_cons_zero ..
theorem zx {α : Type} (x : α) (xs : List α) (i : Nat) (a : α) : (x :: xs).set (i + 1) a = x :: xs.set i a := List.set_cons_succ ..
theorem qzl {α : Type} (a : α) (l : List α) : (a :: l).length = l.length + 1 := List.length_cons
theorem qzn {α : Type} : ([] : List α).length = 0 := List.length_nil
theorem qza {α : Type} (l : List α) : l.toArray.size = l.length := List.size_toArray
end Go.Proofs.Ytecljchifebljaa
namespace Go
section
variable {P : Program} {ops : Array Oper} {Q : Exit → Act → World → Prop} {md : Region.Mode} {S : World → Prop} {late : Nat → Bool}
/-- Whatever comes up: behind a late operation nothing is known any more, behind each other one S holds. -/
def wpAnyL (P : Program) (md : Region.Mode) (ops : Array Oper) (Q : Exit → Act → World → Prop) (S : World → Prop) (late : Nat → Bool) : Nat → Array Bool → Act → World → Prop
 | 0, listed, a, w => Region.ready md ops listed = [] ∧ Q .normal a w
 | n + 1, listed, a, w =>
  (Region.ready md ops listed = [] → Q .normal a w) ∧
  ∀ i ∈ Region.ready md ops listed, wpOp P ops Q i (fun b v => (late i = true ∧ wpAny P md ops Q n (listed.setIfInBounds i true) b v) ∨ (late i = false ∧ S v ∧ wpAnyL P md ops Q S late n (listed.setIfInBounds i true) b v)) a w
theorem wpAnyL.any : ∀ {n : Nat} {listed : Array Bool} {a : Act} {w : World}, wpAnyL P md ops Q S late n listed a w → wpAny P md ops Q n listed a w
 | 0, _, _, _, h => h
 | _ + 1, _, _, _, h => ⟨h.1, fun i hi => wpOp_mono (fun _ _ h => by
   rcases h with h | h
   ·exact h.2
   ·exact h.2.2.any) (h.2 i hi)⟩
/-- B: operations that are not listed and wait, at last, for number i; the late ones are among them. -/
def waitsB (md : Region.Mode) (ops : Array Oper) (late : Nat → Bool) (B : List Nat) (listed : Array Bool) (i : Nat) : Bool :=
 !late i && (List.range ops.size).all (fun j => !late j || B.contains j) && B.all (fun k => !listed.getD k true && (match ops[k]? with | some o => o.after.any fun e => Region.binds md e && (e.on == i || B.contains e.on) | none => false))
def Waits (md : Region.Mode) (ops : Array Oper) (B : List Nat) (listed : Array Bool) (i : Nat) : Prop := ∀ k ∈ B, listed.getD k true = false ∧ ∀ o, ops[k]? = some o → ∃ e ∈ o.after, Region.binds md e = true ∧ (e.on = i ∨ e.on ∈ B)
theorem waits_spec {B : List Nat} {listed : Array Bool} {i : Nat} (h : waitsB md ops late B listed i = true) : late i = false ∧ (∀ j oj, ops[j]? = some oj → late j = true → j ∈ B) ∧ Waits md ops B listed i := by
 unfold waitsB at h
 simp only [Bool.and_eq_true] at h
 obtain ⟨⟨h1, h2⟩, h3⟩ := h
 refine ⟨by simpa using h1, fun j oj hj hl => ?_, fun k hk => ?_⟩
 ·have h4 := List.all_eq_true.1 h2 j (List.mem_range.2 (Array.getElem?_eq_some_iff.1 hj).1)
  rw [hl] at h4
  simpa using h4
 ·have h4 := List.all_eq_true.1 h3 k hk
  rw [Bool.and_eq_true] at h4
  refine ⟨by simpa using h4.1, fun o ho => ?_⟩
  have h5 := h4.2
  rw [ho] at h5
  obtain ⟨e, he, h6⟩ := Array.any_eq_true'.1 h5
  rw [Bool.and_eq_true, Bool.or_eq_true, beq_iff_eq] at h6
  exact ⟨e, he, h6.1, h6.2.imp id (fun h => by simpa using h)⟩
theorem wpAnyL_pull {i : Nat} {oi : Oper} {v : Value} (hi : ops[i]? = some oi) (hsel : Region.noSelect ops = true) (hQ : ∀ c a w, Q (.panic c) (a.put oi.dst v) w → Q (.panic c) a w) (hli : late i = false) {B : List Nat} (hlB : ∀ j oj, ops[j]? = some oj → late j = true → j ∈ B) :
  ∀ (n : Nat) (listed : Array Bool) (a : Act) (w : World),
   (∀ j oj, ops[j]? = some oj → j ≠ i → listed.getD j true = false → (∀ e ∈ oj.after, Region.binds md e = true → e.on ≠ i) → oi.apart ops oj = true) →
   i ∈ Region.ready md ops listed → Waits md ops B listed i → YieldsIf P ops S oi v a → S w →
   wpAnyL P md ops Q S late n (listed.setIfInBounds i true) (a.put oi.dst v) w → wpAnyL P md ops Q S late (n + 1) listed a w
 | n, listed, a, w, hfree, hr, hwt, hy, hS, H => by
  refine ⟨fun h => (by rw [h] at hr; cases hr), fun j hj => ?_⟩
  by_cases hji : j = i
  ·rw [hji]
   exact hy.wpOp hi hS (.inr ⟨hli, hS, H⟩)
  ·obtain ⟨hun, oj, hoj, hall⟩ := mem_ready.1 hj
   have hnot : ∀ e ∈ oj.after, Region.binds md e = true → e.on ≠ i := fun e he hb heq => by
    have h1 := hall e he hb
    have h0 := (mem_ready.1 hr).1
    rw [heq] at h1
    rcases Nat.lt_or_ge i listed.size with h' | h'
    ·simp [h'] at h0 h1; rw [h0] at h1; cases h1
    ·simp [Array.getElem?_eq_none h'] at h1
   have hnB : j ∉ B := fun h => by
    obtain ⟨_, h2⟩ := hwt j h
    obtain ⟨e, he, hb, h3⟩ := h2 oj hoj
    rcases h3 with h3 | h3
    ·exact hnot e he hb h3
    ·have h4 := (hwt _ h3).1
     have h5 := hall e he hb
     rcases Nat.lt_or_ge e.on listed.size with h' | h'
     ·simp [h'] at h4 h5; rw [h4] at h5; cases h5
     ·simp [Array.getElem?_eq_none h'] at h4
   have hlj : late j = false := by
    cases h : late j with
    | false => rfl
    | true => exact absurd (hlB j oj hoj h) hnB
   have hj2 := ready_mono hj hji
   cases n with
   | zero =>
    rw [H.1] at hj2
    cases hj2
   | succ n =>
    have h2 := wpOp_putIf hoj (hfree j oj hoj hji hun hnot) (fun cs b => Region.noSelect_spec hsel i oi cs b hi) (fun cs b => Region.noSelect_spec hsel j oj cs b hoj) hQ hy (H.2 j hj2)
    refine wpOp_mono (fun b u h3 => .inr ⟨hlj, ?_⟩) h2
    obtain ⟨h4, h5⟩ := h3
    rcases h5 with h5 | h5
    ·rw [hlj] at h5; cases h5.1
    ·refine ⟨h5.2.1, wpAnyL_pull hi hsel hQ hli hlB n (listed.setIfInBounds j true) b u (fun k ok hk hki hun2 hno => ?_) (ready_mono hr (Ne.symm hji)) (fun k hk => ⟨?_, (hwt k hk).2⟩) h4 h5.2.1 ?_⟩
     ·refine hfree k ok hk hki ?_ hno
      by_cases hjk : j = k
      ·subst hjk; exact hun
      ·rw [getD_set_ne true hjk] at hun2; exact hun2
     ·rw [getD_set_ne true (fun e => hnB (by rw [e]; exact hk))]; exact (hwt k hk).1
     ·rw [Array.setIfInBounds_comm _ _ hji]
      exact h5.2.2
theorem wpAnyL_take {i : Nat} {oi : Oper} {v : Value} {n : Nat} {listed : Array Bool} {a : Act} {w : World} (hi : ops[i]? = some oi)
  (hs : Region.noSelect ops = true) (hf : Region.free md ops listed i = true) (hr : (Region.ready md ops listed).contains i = true) {B : List Nat} (hw : waitsB md ops late B listed i = true)
  (hQ : ∀ c a w, Q (.panic c) (a.put oi.dst v) w → Q (.panic c) a w) (hy : YieldsIf P ops S oi v a) (hS : S w)
  (h : wpAnyL P md ops Q S late n (listed.setIfInBounds i true) (a.put oi.dst v) w) : wpAnyL P md ops Q S late (n + 1) listed a w :=
 wpAnyL_pull hi hs hQ (waits_spec hw).1 (waits_spec hw).2.1 n listed a w (Region.free_spec hi hf) (by simpa using hr) (waits_spec hw).2.2 hy hS h
theorem wpAnyL_done {n : Nat} {listed : Array Bool} {a : Act} {w : World} (hr : Region.ready md ops listed = []) (h : Q .normal a w) : wpAnyL P md ops Q S late n listed a w := by
 cases n with
 | zero => exact ⟨hr, h⟩
 | succ n => exact ⟨fun _ => h, by rw [hr]; simp⟩
/-- Each of these comes up next. -/
def AllL (P : Program) (md : Region.Mode) (ops : Array Oper) (Q : Exit → Act → World → Prop) (S : World → Prop) (late : Nat → Bool) (n : Nat) (listed : Array Bool) (a : Act) (w : World) (rs : List Nat) : Prop :=
 ∀ i ∈ rs, wpOp P ops Q i (fun b v => (late i = true ∧ wpAny P md ops Q n (listed.setIfInBounds i true) b v) ∨ (late i = false ∧ S v ∧ wpAnyL P md ops Q S late n (listed.setIfInBounds i true) b v)) a w
theorem wpAnyL_ready {rs : List Nat} {n : Nat} {listed : Array Bool} {a : Act} {w : World} (hr : Region.ready md ops listed = rs) (hne : rs ≠ [])
  (h : AllL P md ops Q S late n listed a w rs) : wpAnyL P md ops Q S late (n + 1) listed a w := ⟨fun h0 => absurd (hr ▸ h0) hne, hr ▸ h⟩
theorem AllL.nil {n : Nat} {listed : Array Bool} {a : Act} {w : World} : AllL P md ops Q S late n listed a w [] := fun _ h => by cases h
theorem AllL.cons {n : Nat} {listed : Array Bool} {a : Act} {w : World} {i : Nat} {o : Oper} {rs : List Nat} (ho : ops[i]? = some o) (hl : late i = false)
  (h : ∀ K' : Act → World → Prop, Shut (∀ a w, S w → (S w → wpAnyL P md ops Q S late n (listed.setIfInBounds i true) a w) → K' a w) → if Region.wanted o (yielded ops a.tmps) = true then Oper.wp P o a w K' Q else K' (a.put o.dst undef) w)
  (hs : AllL P md ops Q S late n listed a w rs) : AllL P md ops Q S late n listed a w (i :: rs) := fun j hj => by
 rcases List.mem_cons.1 hj with e | hj
 ·rw [e]; exact wpOp_step ho (fun K' hK => h K' (fun a w hS hW => hK a w (.inr ⟨hl, hS, hW hS⟩)))
 ·exact hs j hj
/-- A late one: what follows goes under another condition. -/
theorem AllL.last {S2 : World → Prop} {n : Nat} {listed : Array Bool} {a : Act} {w : World} {i : Nat} {o : Oper} {rs : List Nat} (ho : ops[i]? = some o) (hl : late i = true)
  (h : ∀ K' : Act → World → Prop, Shut (∀ a w, S2 w → (S2 w → wpAnyH P md ops Q S2 n (listed.setIfInBounds i true) a w) → K' a w) → if Region.wanted o (yielded ops a.tmps) = true then Oper.wp P o a w K' Q else K' (a.put o.dst undef) w)
  (hs : AllL P md ops Q S late n listed a w rs) : AllL P md ops Q S late n listed a w (i :: rs) := fun j hj => by
 rcases List.mem_cons.1 hj with e | hj
 ·rw [e]; exact wpOp_step ho (fun K' hK => h K' (fun a w hS hW => hK a w (.inl ⟨hl, wpAny_of_held _ _ _ _ (hW hS)⟩)))
 ·exact hs j hj
theorem wp_region_late {id : Nat} {a : Act} {w : World} (late : Nat → Bool) (hm : P.follows .mixedOrders = true) (hS : S w.drew)
  (h : S w.drew → wpAnyL P .any ops Q S late ops.size (Array.replicate ops.size false) a w.drew) : (Code.region id ops true).wp P Q a w :=
 wp_region_any hm (h hS).any
end
end Go
namespace Go.Proofs.Ytecljchifebljaa
open Go Go.RowKit
def marksL : List Nat → Array Bool → Array Bool
 | [], l => l
 | i :: r, l => marksL r (l.setIfInBounds i true)
def okL (md : Region.Mode) (ops : Array Oper) : List Nat → Array Bool → Bool
 | [], _ => true
 | i :: r, l => Region.free md ops l i && (Region.ready md ops l).contains i && okL md ops r (l.setIfInBounds i true)
/-- These operations yield, one behind the other; then K. -/
def TkH (P : Program) (ops : Array Oper) (S : World → Prop) (K : Act → Prop) : List Nat → Act → Prop
 | [], a => K a
 | i :: r, a => ∃ (oi : Oper) (v : Value), ops[i]? = some oi ∧ YieldsIf P ops S oi v a ∧ TkH P ops S K r (a.put oi.dst v)
theorem qtc {P : Program} {ops : Array Oper} {S : World → Prop} {K : Act → Prop} {i : Nat} {r : List Nat} {oi : Oper} {v : Value} {a : Act} (hi : ops[i]? = some oi) (hw : Region.wanted oi (yielded ops a.tmps) = true)
  (hx : ∀ w, S w → (execOp a.eval oi).run P w = .ok (.value v) w) (h : TkH P ops S K r (a.put oi.dst v)) : TkH P ops S K (i :: r) a := ⟨oi, v, hi, .inl ⟨hw, hx⟩, h⟩
theorem qtz {P : Program} {ops : Array Oper} {S : World → Prop} {K : Act → Prop} {i : Nat} {r : List Nat} {oi : Oper} {a : Act} (hi : ops[i]? = some oi) (hw : Region.wanted oi (yielded ops a.tmps) = false)
  (h : TkH P ops S K r (a.put oi.dst undef)) : TkH P ops S K (i :: r) a := ⟨oi, undef, hi, .inr ⟨hw, rfl⟩, h⟩
theorem qtn {P : Program} {ops : Array Oper} {S : World → Prop} {K : Act → Prop} {a : Act} (h : K a) : TkH P ops S K [] a := h
theorem qts0 {P : Program} {md : Region.Mode} {ops : Array Oper} {Q : Exit → Act → World → Prop} {S : World → Prop} {w : World} (hS : S w) (hs : Region.noSelect ops = true) (hQ : ∀ d v c a w, Q (.panic c) (a.put d v) w → Q (.panic c) a w) (g : Nat) :
  ∀ (is : List Nat) (a : Act) (listed : Array Bool) (m : Array Bool), m = marksL is listed → okL md ops is listed = true → TkH P ops S (fun a => wpAnyH P md ops Q S g m a w) is a → wpAnyH P md ops Q S (g + is.length) listed a w
 | [], a, listed, m, e, _, h => by subst e; exact h
 | i :: r, a, listed, m, e, hok, h => by
  obtain ⟨oi, v, hi, hy, h⟩ := h
  simp only [okL, Bool.and_eq_true] at hok
  exact wpAnyH_take hi hs hok.1.1 hok.1.2 (hQ _ _) hy hS (qts0 hS hs hQ g r _ _ m e hok.2 h)
theorem qts {P : Program} {md : Region.Mode} {ops : Array Oper} {Q : Exit → Act → World → Prop} {S : World → Prop} (is : List Nat) {fuel : Nat} {listed : Array Bool} {a : Act} {w : World}
  (hS : S w) (h : TkH P ops S (fun a => wpAnyH P md ops Q S (fuel - is.length) (marksL is listed) a w) is a)
  (hok : (okL md ops is listed && Region.noSelect ops && decide (is.length ≤ fuel)) = true := by kernel_rfl)
  (hQ : ∀ d v c a w, Q (.panic c) (a.put d v) w → Q (.panic c) a w := by exact fun _ _ _ _ _ h => h) : wpAnyH P md ops Q S fuel listed a w := by
 simp only [Bool.and_eq_true, decide_eq_true_eq] at hok
 have := qts0 hS hok.1.2 hQ (fuel - is.length) is a listed _ rfl hok.1.1 h
 rw [Nat.sub_add_cancel hok.2] at this
 exact this
/-- What waits, at last, for number i. -/
def closB (md : Region.Mode) (ops : Array Oper) (listed : Array Bool) (i : Nat) : List Nat :=
 (List.range ops.size).foldl (fun B k => if !listed.getD k true && (match ops[k]? with | some o => o.after.any fun e => Region.binds md e && (e.on == i || B.contains e.on) | none => false) then B ++ [k] else B) []
def okM (md : Region.Mode) (ops : Array Oper) (late : Nat → Bool) : List Nat → Array Bool → Bool
 | [], _ => true
 | i :: r, l => Region.free md ops l i && (Region.ready md ops l).contains i && waitsB md ops late (closB md ops l i) l i && okM md ops late r (l.setIfInBounds i true)
theorem qtl0 {P : Program} {md : Region.Mode} {ops : Array Oper} {Q : Exit → Act → World → Prop} {S : World → Prop} {late : Nat → Bool} {w : World} (hS : S w) (hs : Region.noSelect ops = true) (hQ : ∀ d v c a w, Q (.panic c) (a.put d v) w → Q (.panic c) a w) (g : Nat) :
  ∀ (is : List Nat) (a : Act) (listed : Array Bool) (m : Array Bool), m = marksL is listed → okM md ops late is listed = true → TkH P ops S (fun a => wpAnyL P md ops Q S late g m a w) is a → wpAnyL P md ops Q S late (g + is.length) listed a w
 | [], a, listed, m, e, _, h => by subst e; exact h
 | i :: r, a, listed, m, e, hok, h => by
  obtain ⟨oi, v, hi, hy, h⟩ := h
  simp only [okM, Bool.and_eq_true] at hok
  exact wpAnyL_take hi hs hok.1.1.1 hok.1.1.2 hok.1.2 (hQ _ _) hy hS (qtl0 hS hs hQ g r _ _ m e hok.2 h)
theorem qtl {P : Program} {md : Region.Mode} {ops : Array Oper} {Q : Exit → Act → World → Prop} {S : World → Prop} {late : Nat → Bool} (is : List Nat) {fuel : Nat} {listed : Array Bool} {a : Act} {w : World}
  (hS : S w) (h : TkH P ops S (fun a => wpAnyL P md ops Q S late (fuel - is.length) (marksL is listed) a w) is a)
  (hok : (okM md ops late is listed && Region.noSelect ops && decide (is.length ≤ fuel)) = true := by kernel_rfl)
  (hQ : ∀ d v c a w, Q (.panic c) (a.put d v) w → Q (.panic c) a w := by exact fun _ _ _ _ _ h => h) : wpAnyL P md ops Q S late fuel listed a w := by
 simp only [Bool.and_eq_true, decide_eq_true_eq] at hok
 have := qtl0 hS hok.1.2 hQ (fuel - is.length) is a listed _ rfl hok.1.1 h
 rw [Nat.sub_add_cancel hok.2] at this
 exact this
end Go.Proofs.Ytecljchifebljaa
namespace Go.Proofs.Ytecljchifebljaa
open Go Go.RowKit
theorem qtk {P : Program} {md : Region.Mode} {ops : Array Oper} {Q : Exit → Act → World → Prop} {S : World → Prop} {i : Nat} {oi : Oper} {v : Value} {fuel : Nat} {listed : Array Bool} {a : Act} {w : World} (hi : ops[i]? = some oi)
  (hw : Region.wanted oi (yielded ops a.tmps) = true) (hx : ∀ w, S w → (execOp a.eval oi).run P w = .ok (.value v) w) (hS : S w)
  (h : wpAnyH P md ops Q S fuel (listed.setIfInBounds i true) (a.put oi.dst v) w)
  (hs : Region.noSelect ops = true := by kernel_rfl) (hf : Region.free md ops listed i = true := by kernel_rfl) (hr : (Region.ready md ops listed).contains i = true := by kernel_rfl)
  (hQ : ∀ c a w, Q (.panic c) (a.put oi.dst v) w → Q (.panic c) a w := by exact fun _ _ _ h => h) : wpAnyH P md ops Q S (fuel + 1) listed a w :=
 wpAnyH_take hi hs hf hr hQ (.inl ⟨hw, hx⟩) hS h
theorem qtu {P : Program} {md : Region.Mode} {ops : Array Oper} {Q : Exit → Act → World → Prop} {S : World → Prop} {i : Nat} {oi : Oper} {fuel : Nat} {listed : Array Bool} {a : Act} {w : World} (hi : ops[i]? = some oi)
  (hw : Region.wanted oi (yielded ops a.tmps) = false) (hS : S w)
  (h : wpAnyH P md ops Q S fuel (listed.setIfInBounds i true) (a.put oi.dst undef) w)
  (hs : Region.noSelect ops = true := by kernel_rfl) (hf : Region.free md ops listed i = true := by kernel_rfl) (hr : (Region.ready md ops listed).contains i = true := by kernel_rfl)
  (hQ : ∀ c a w, Q (.panic c) (a.put oi.dst undef) w → Q (.panic c) a w := by exact fun _ _ _ h => h) : wpAnyH P md ops Q S (fuel + 1) listed a w :=
 wpAnyH_take hi hs hf hr hQ (.inr ⟨hw, rfl⟩) hS h
end Go.Proofs.Ytecljchifebljaa
namespace Go.Proofs.Ytecljchifebljaa
open Go.RowKit Go.BigM

theorem right_ret (l : List UInt8) (b : Bool) (h : b = true ↔ Canon l) : Ending.returned (.bool b) = .returned (.bool (decide (Canon l))) := by
 congr 2; rw [Bool.eq_iff_iff]; simpa using h

end Go.Proofs.Ytecljchifebljaa
namespace Go.Proofs.Ytecljchifebljaa
open Go.RowKit Go.BigM

/-- How many bytes from the beginning on are of a set. -/
def rowOf (set : List UInt8) (l : List UInt8) : Nat := (l.takeWhile set.contains).length
theorem rowOf_le (set l : List UInt8) : rowOf set l ≤ l.length := by unfold rowOf; exact (List.takeWhile_prefix _).length_le
theorem rowOf_end (set : List UInt8) : ∀ (l : List UInt8) (k : Nat), k ≤ l.length → (∀ i (h : i < l.length), i < k → set.contains l[i] = true) → (∀ h : k < l.length, set.contains l[k] = false) → rowOf set l = k
 | [], k, hk, _, _ => by simp at hk; simp [rowOf, hk]
 | c :: l, 0, _, _, h => by
  have := h (by simp)
  simp only [List.getElem_cons_zero] at this
  unfold rowOf; rw [List.takeWhile_cons, this]; rfl
 | c :: l, k + 1, hk, hin, hout => by
  have h0 := hin 0 (by simp) (by omega)
  simp only [List.getElem_cons_zero] at h0
  have ih := rowOf_end set l k (by simpa using hk) (fun i h1 h2 => by have := hin (i + 1) (by simpa using h1) (by omega); simpa using this) (fun h => by have := hout (by simpa using h); simpa using this)
  unfold rowOf at ih ⊢
  rw [List.takeWhile_cons, if_pos h0, List.length_cons, ih]
/-- How many bytes from the beginning on do not count; r: within a remark. -/
def gapOf : Bool → List UInt8 → Nat
 | _, [] => 0
 | r, c :: l => if (!(c == 59 || (r && c != 10))) && !([9, 10, 32] : List UInt8).contains c then 0 else 1 + gapOf (c == 59 || (r && c != 10)) l
theorem gapOf_le : ∀ (r : Bool) (l : List UInt8), gapOf r l ≤ l.length
 | _, [] => by simp [gapOf]
 | r, c :: l => by
  unfold gapOf
  split
  ·simp
  ·have := gapOf_le (c == 59 || (r && c != 10)) l
   simp only [List.length_cons]; omega
end Go.Proofs.Ytecljchifebljaa
namespace Go.Proofs.Ytecljchifebljaa
open Go.RowKit Go.BigM

def dset : List UInt8 := [48, 49, 50, 51, 52, 53, 54, 55, 56, 57]
def sset : List UInt8 := [97, 98, 99, 100, 101, 102, 103, 104, 105, 106, 107, 108, 109, 110, 111, 112, 113, 114, 115, 116, 117, 118, 119, 120, 121, 122, 48, 49, 50, 51, 52, 53, 54, 55, 56, 57, 33, 63, 42, 60, 62, 61, 43, 45, 47, 46, 95]
/-- Digits, or the sign and digits. -/
def isNum (l : List UInt8) : Bool := decide (0 < (strip l).length) && (rowOf dset (strip l) == (strip l).length)
/-- A numeral's number's text. -/
def numOf (l : List UInt8) : List UInt8 := if (strip l).dropWhile (· == 48) = [] then [48] else if low l then 45 :: (strip l).dropWhile (· == 48) else (strip l).dropWhile (· == 48)

end Go.Proofs.Ytecljchifebljaa
namespace Go.Proofs.Ytecljchifebljaa
open Go.RowKit Go.BigM

def Z5 : Array Value := #[.int .i64 0, .string ⟨#[]⟩, .slice none 0 0, .slice none 0 0, .int .i64 0]
theorem info40 : (Try.prog.info? 29).map (·.size) = some 5 := by kernel_rfl
theorem alloc_at (w : World) (o : Obj) : (w.alloc o).heap[w.heap.size]? = some o := heap_alloc_new w o
def bAt (l t : List UInt8) : Bool := Lib.hasPrefix l t && (rowOf sset (Lib.trimPrefix l t) == 0)
/-- The #t or #f that a text begins with. -/
def boolOf (l : List UInt8) : Option ByteArray := if bAt l [35, 116] then some ⟨#[35, 116]⟩ else if bAt l [35, 102] then some ⟨#[35, 102]⟩ else none
theorem below_setRowB {B : Nat} {v w : World} (h : Below B v w) (g : Nat) (cs : Array Value) (hg : B ≤ g) : Below B v (w.setRow g cs) := by
 refine ⟨h.os, h.tape, h.output, by simpa [World.setRow] using h.size, fun k hk => ?_⟩
 rw [← h.block k hk]
 unfold World.setRow
 simp only [Array.getElem?_modify]
 rw [if_neg (by omega)]
end Go.Proofs.Ytecljchifebljaa
namespace Go.Proofs.Ytecljchifebljaa
open Go.RowKit Go.BigM

/-- The datum, no list, that a text begins with. -/
def tokOf (l : List UInt8) : Option (Int × ByteArray × Nat) :=
 if Lib.hasPrefix l [35] then (boolOf l).map (fun t => (2, t, 2))
 else if rowOf sset l = 0 then none
 else if isNum (l.take (rowOf sset l)) then (if Canon (numOf (l.take (rowOf sset l))) then some (1, ⟨(numOf (l.take (rowOf sset l))).toArray⟩, rowOf sset l) else none)
 else if 0 < rowOf dset (l.take (rowOf sset l)) then none
 else some (3, ⟨(l.take (rowOf sset l)).toArray⟩, rowOf sset l)
end Go.Proofs.Ytecljchifebljaa
