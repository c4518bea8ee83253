/- A slice of raw data that came in is opened. -/
import Derived.Test.YtecljchifebljaaYAY
import Derived.Test.YtecljchifebljaaYAA
import Derived.Deep.Cut
import Derived.Deep.RegionHeld3
set_option linter.unusedVariables false
set_option linter.unusedSimpArgs false
namespace Go.Proofs.Ytecljchifebljaa
open Go.RowKit Go.ChangeShapes Go.WideShapes Go.Deep

theorem list_ofP {α : Type} (p : Nat → α → Prop) : ∀ (n : Nat), (∀ i, i < n → ∃ r, p i r) → ∃ l : List α, l.length = n ∧ ∀ i (h : i < l.length), p i l[i]
 | 0, _ => ⟨[], rfl, fun i h => by simp at h⟩
 | n + 1, H => by
  obtain ⟨l, hl, hp⟩ := list_ofP p n (fun i hi => H i (by omega))
  obtain ⟨r, hr⟩ := H n (by omega)
  refine ⟨l ++ [r], by simp [hl], fun i h => ?_⟩
  by_cases hi : i < l.length
  ·rw [List.getElem_append_left hi]; exact hp i hi
  ·have : i = l.length := by simp at h; omega
   subst this
   rw [List.getElem_append_right (by omega)]
   simp [hl]; exact hr
theorem cells47 : Try.prog.cellsOf 67 = 3 := by kernel_rfl

section
variable {H : Type} {enc : TypeId × Value → H} {w : World} {base : Nat} {spare : Nat → Bool} {held : Bool}
set_option maxRecDepth 100000 in
theorem raws_open (N : Nat) : ∀ (fuel : Nat), fuel ≤ N → ∀ (cs : List Value) (x : DataW H × List MemPlace), DataW.trod enc Try.prog w base spare held fuel 22 cs = some x →
  ∃ ao cap, ∃ l : List Rw, cs = [.slice ao l.length cap] ∧ RsAt w ao l := by
 induction N with
 | zero =>
  intro fuel hf cs x h
  obtain rfl : fuel = 0 := by omega
  simp [DataW.trod] at h
 | succ N ih =>
  intro fuel hf cs x h
  rcases DataW.trod_slice Try.underlying22 h with ⟨rfl, _⟩ | ⟨a, len, cap, elems, rest, n, rfl, rfl, _, _, hlc, hcm, hlen, hel, _, _⟩
  ·exact ⟨none, 0, [], rfl, by simp [maxLen], .inl rfl⟩
  ·have one : ∀ i, i < len → ∃ r, Rw.At w r (a.add (i * 3)) := by
    intro i hi
    have h1 := hel i hi
    rw [cells47] at h1
    have h2 : elems[i]? = some (elems[i]'(by omega)) := List.getElem?_eq_getElem (by omega)
    rw [h2] at h1
    obtain ⟨cs', hc, ht⟩ := Option.bind_eq_some_iff.1 h1
    obtain ⟨_, hcl, hat⟩ := World.cells?_some hc
    obtain ⟨ys, n', rfl, _, _, hyl, hfield⟩ := DataW.trod_struct Try.underlying67 ht
    match cs', hcl with
    | [c0, c1, c2], _ =>
     have f0 := hfield 0 _ rfl
     have f1 := hfield 1 _ rfl
     have f2 := hfield 2 _ rfl
     obtain ⟨y0, g0⟩ : ∃ y, ys[0]? = some y := ⟨_, List.getElem?_eq_getElem (by rw [hyl]; decide)⟩
     obtain ⟨y1, g1⟩ : ∃ y, ys[1]? = some y := ⟨_, List.getElem?_eq_getElem (by rw [hyl]; decide)⟩
     obtain ⟨y2, g2⟩ : ∃ y, ys[2]? = some y := ⟨_, List.getElem?_eq_getElem (by rw [hyl]; decide)⟩
     have c1' : Try.prog.cellsOf 3 = 1 := by kernel_rfl
     have c2' : Try.prog.cellsOf 22 = 1 := by kernel_rfl
     have f0' : DataW.trod enc Try.prog w base spare held n' 3 [c0] = some y0 := by
      have := f0.trans g0
      simpa [c1'] using this
     have f1' : DataW.trod enc Try.prog w base spare held n' 3 [c1] = some y1 := by
      have := f1.trans g1
      simpa [c1'] using this
     have f2' : DataW.trod enc Try.prog w base spare held n' 22 [c2] = some y2 := by
      have := f2.trans g2
      simpa [c2'] using this
     obtain ⟨k, e0, _, w0⟩ := DataW.trod_int Try.underlying3 f0'
     obtain ⟨m, e1, _, w1⟩ := DataW.trod_int Try.underlying3 f1'
     obtain ⟨po, pc, pl, e2, hp⟩ := ih n' (by omega) _ _ f2'
     have q0 := hat 0 (by decide)
     have q1 := hat 1 (by decide)
     have q2 := hat 2 (by decide)
     simp only [List.cons.injEq, and_true] at e0 e1 e2
     subst e0 e1 e2
     refine ⟨.mk k m pl, ?_⟩
     unfold Rw.At
     exact ⟨q0, q1, wf_I64 _ w0, wf_I64 _ w1, po, pc, q2, hp.1, hp.2⟩
   obtain ⟨l, hl, hp⟩ := list_ofP _ len one
   subst hl
   exact ⟨some a, cap, l, rfl, by omega, .inr ⟨a, rfl, Rws.At.of_get l a hp⟩⟩
set_option maxRecDepth 100000 in
/-- A slice of raw data among the arguments. -/
theorem open_raws {v : Value} {d : DataW H} {p : List MemPlace} (hv : ∃ a n c, v = .slice a n c) (h : DataW.Trod enc Try.prog w base spare held 22 v d p) :
  ∃ ao cap, ∃ l : List Rw, v = .slice ao l.length cap ∧ RsAt w ao l := by
 obtain ⟨a, n, c, rfl⟩ := hv
 obtain ⟨fuel, hf⟩ := h
 obtain ⟨ao, cap, l, e, hl⟩ := raws_open fuel fuel (Nat.le_refl _) _ _ hf
 simp [Value.cells] at e
 obtain ⟨rfl, rfl, rfl⟩ := e
 exact ⟨_, _, l, rfl, hl⟩
end
end Go.Proofs.Ytecljchifebljaa
namespace Go.Proofs.Ytecljchifebljaa
open Go.RowKit

theorem cnts_take (l : List Rw) (j : Nat) (h : j < l.length) : Rw.cnts (l.take (j + 1)) = Rw.cnts (l.take j) + l[j].cnt := by
 have hs : ∀ (a b : List Rw), Rw.cnts (a ++ b) = Rw.cnts a + Rw.cnts b := by
  intro a b
  induction a with
  | nil => simp [Rw.cnts]
  | cons d a ih => simp only [List.cons_append, Rw.cnts, ih]; omega
 rw [List.take_succ_eq_append_getElem h, hs]
 simp [Rw.cnts]
mutual
/-- How many stand in each other. -/
def Rw.dp : Rw → Nat
 | .mk _ _ l => 1 + Rw.dps l
def Rw.dps : List Rw → Nat
 | [] => 0
 | r :: l => max r.dp (Rw.dps l)
end
theorem dps_take (l : List Rw) (j : Nat) (h : j < l.length) : Rw.dps (l.take (j + 1)) = max (Rw.dps (l.take j)) l[j].dp := by
 have hs : ∀ (a b : List Rw), Rw.dps (a ++ b) = max (Rw.dps a) (Rw.dps b) := by
  intro a b
  induction a with
  | nil => simp [Rw.dps]
  | cons d a ih => simp only [List.cons_append, Rw.dps, ih]; omega
 rw [List.take_succ_eq_append_getElem h, hs]
 simp [Rw.dps]
/-- A count: what it is where it is small. -/
def RetSz (l : List Rw) (deep : Nat) (w : World) (e : Ending) (w' : World) : Prop :=
 ∃ r : Nat, e = .returned (.int .i64 r) ∧ r ≤ 1000 + 61 * (21 - deep) ∧ (r ≤ 60 → Rw.cnts l = r ∧ Rw.dps l + deep ≤ 21) ∧ w = w'
def ZInv (l : List Rw) (deep : Nat) (nv iv : Value) : Prop :=
 ∃ j m : Nat, j ≤ l.length ∧ iv = .int .i64 j ∧ nv = .int .i64 m ∧ m ≤ 1000 + 61 * (21 - deep) ∧ (m ≤ 60 → Rw.cnts (l.take j) = m ∧ Rw.dps (l.take j) + deep ≤ 21)

set_option maxHeartbeats 2000000 in
theorem rsize (N : Nat) : ∀ (l : List Rw), Rw.cnts l ≤ N → ∀ (deep : Nat), deep ≤ 21 → ∀ (ao : Option Addr) (cap : Nat) (w : World), RsAt w ao l →
  Calls Try.prog 40 #[.slice ao l.length cap, .int .i64 (deep : Int)] w (RetSz l deep w) := by
 have base : ∀ (l : List Rw) (ao : Option Addr) (cap : Nat) (w : World), Calls Try.prog 40 #[.slice ao l.length cap, .int .i64 ((21 : Nat) : Int)] w (RetSz l 21 w) := by
  intro l ao cap w
  go_enter Try.func40, Try.ntmps40
  go_wp2
  go_ret
  exact ⟨1000, rfl, by omega, by omega, rfl⟩
 induction N with
 | zero =>
  intro l hl deep hd ao cap w hR
  have hln := length_cnts l
  have h0 : l.length = 0 := by omega
  by_cases h21 : deep = 21
  ·subst h21; exact base l ao cap w
  ·have q0 : decide ((20 : Int) < (deep : Int)) = false := decide_eq_false (by omega)
   have HC : Hid (Rw.cnts l = 0 ∧ Rw.dps l + deep ≤ 21) := ⟨by omega, by rw [List.length_eq_zero_iff.1 h0]; simp [Rw.dps]; omega⟩
   rw [h0]
   clear base hR hln h0 hl
   go_enter Try.func40, Try.ntmps40
   go_wp2_with fail
   go_loop [5, 6] (fun nv iv => nv = .int .i64 0 ∧ iv = .int .i64 0) (fun _ _ => 0)
   case atStart => exact ⟨rfl, rfl⟩
   case round =>
    obtain ⟨rfl, rfl⟩ := hrel
    go_wp2_with fail
    go_ret
    exact ⟨0, rfl, by omega, fun _ => HC.out, rfl⟩
 | succ N ih =>
  intro l hl deep hd ao cap w hR
  have hlm := hR.1
  by_cases h21 : deep = 21
  ·subst h21; exact base l ao cap w
  ·have q0 : decide ((20 : Int) < (deep : Int)) = false := decide_eq_false (by omega)
   have IH := Lib.hid ih
   have HR := Lib.hid hR
   unfold maxLen at hlm
   clear base ih hR
   go_enter Try.func40, Try.ntmps40
   go_wp2_with fail
   go_loop [5, 6] (fun nv iv => ZInv l deep nv iv) (fun _ iv => l.length - (intOf iv).toNat)
   case atStart => exact ⟨0, 0, Nat.zero_le _, rfl, rfl, by omega, fun _ => ⟨by simp [Rw.cnts], by simp [Rw.dps]; omega⟩⟩
   case round =>
    obtain ⟨j, m, hj, rfl, rfl, hm1, hm2⟩ := hrel
    have HM := Lib.hid hm2
    clear hm2
    by_cases hlt : j < l.length
    ·have q1 : decide ((j : Int) < (l.length : Int)) = true := decide_eq_true (by omega)
     by_cases h60 : m ≤ 60
     ·have q2 : decide ((m : Int) ≤ 60) = true := decide_eq_true (by omega)
      obtain ⟨b, k, n, po, pl, pc, rfl, hlj, c0, c1, c2, i1, i2, hpl⟩ := HR.out.get j hlt
      have HP := Lib.hid hpl
      have hcj := cnts_get l j hlt
      have hct := cnts_take l j hlt
      have hdt := dps_take l j hlt
      rw [hlj] at hcj hct hdt
      simp only [Rw.cnt, Rw.dp] at hcj hct hdt
      have HT := Lib.hid hct
      have HDT := Lib.hid hdt
      clear hpl hlj hct hdt c0 c1
      go_wp2_with fail
      refine (IH.out pl (by omega) (deep + 1) (by omega) po pc w HP.out).mono ?_
      rintro e w' ⟨r, rfl, hr1, hr2, rfl⟩
      have HN := Lib.hid (show m + 1 + r ≤ 60 → Rw.cnts (l.take (j + 1)) = m + 1 + r ∧ Rw.dps (l.take (j + 1)) + deep ≤ 21 by
       intro h
       have h1 := HM.out (by omega)
       have h2 := hr2 (by omega)
       refine ⟨by rw [HT.out, h1.1, h2.1]; omega, ?_⟩
       rw [HDT.out]; omega)
      have hb : m + 1 + r ≤ 1000 + 61 * (21 - deep) := by omega
      have hsm : m + 1 + r ≤ 100000 := by omega
      clear hr1 hr2
      go_wp2_with fail
      go_round
      case rel => exact ⟨j + 1, m + 1 + r, by omega, by go_num, by go_num, hb, HN.out⟩
      case measure => simp [intOf]; omega
     ·have q2 : decide ((m : Int) ≤ 60) = false := decide_eq_false (by omega)
      go_wp2_with fail
      go_ret
      exact ⟨m, rfl, hm1, fun h => absurd h (by omega), rfl⟩
    ·obtain rfl : j = l.length := by omega
     have HE : Hid (m ≤ 60 → Rw.cnts l = m ∧ Rw.dps l + deep ≤ 21) := by
      have h := HM.out
      have e : l.take l.length = l := List.take_length
      rw [e] at h; exact h
     clear hlt
     go_wp2_with fail
     go_ret
     exact ⟨m, rfl, hm1, HE.out, rfl⟩

/-- Whether they are few. -/
def RetFew (l : List Rw) (w : World) (e : Ending) (w' : World) : Prop := ∃ r : Bool, e = .returned (.bool r) ∧ (r = true → Rw.cnts l ≤ 60 ∧ Rw.dps l ≤ 21) ∧ w = w'
theorem few_any (l : List Rw) (ao : Option Addr) (cap : Nat) (w : World) (hR : RsAt w ao l) : Calls Try.prog 15 #[.slice ao l.length cap] w (RetFew l w) := by
 have HR := Lib.hid (rsize _ l (Nat.le_refl _) 0 (by decide) ao cap w hR)
 clear hR
 go_enter Try.func15, Try.ntmps15
 go_wp2_with fail
 refine HR.out.mono ?_
 rintro e w' ⟨r, rfl, hr1, hr2, rfl⟩
 have HN := Lib.hid hr2
 clear hr1 hr2
 by_cases h60 : r ≤ 60
 ·have q : decide ((r : Int) ≤ 60) = true := decide_eq_true (by omega)
  go_wp2
  go_ret
  exact ⟨true, rfl, fun _ => by have := HN.out h60; omega, rfl⟩
 ·have q : decide ((r : Int) ≤ 60) = false := decide_eq_false (by omega)
  go_wp2
  go_ret
  exact ⟨false, rfl, (fun h => by cases h), rfl⟩
end Go.Proofs.Ytecljchifebljaa
namespace Go.Proofs.Ytecljchifebljaa
open Go.RowKit

/-- The texts of numbers, of #t and #f, of symbols. -/
def tblI : List ByteArray := [⟨#[48]⟩, ⟨#[49]⟩, ⟨#[45, 55]⟩, ⟨#[52, 50]⟩, ⟨#[49, 50, 51, 52, 53, 54, 55, 56, 57, 48, 49, 50, 51, 52, 53, 54, 55, 56, 57, 48, 49, 50, 51, 52, 53, 54, 55, 56, 57, 48]⟩]
def tblB : List ByteArray := [⟨#[35, 116]⟩, ⟨#[35, 102]⟩]
def tblS : List ByteArray := [⟨#[97]⟩, ⟨#[98]⟩, ⟨#[120]⟩, ⟨#[102]⟩, ⟨#[43]⟩, ⟨#[99, 97, 114]⟩, ⟨#[46, 46, 46]⟩, ⟨#[95]⟩, ⟨#[108, 101, 116]⟩, ⟨#[113, 117, 111, 116, 101]⟩, ⟨#[97, 45, 62, 98]⟩]
mutual
/-- The datum that a raw one makes. -/
def Rw.make : Rw → Dt
 | .mk k n l =>
  if k % 7 = 0 then .mk 1 (tblI.getD (n % 5).toNat ⟨#[]⟩) [] [] 0
  else if k % 7 = 1 then .mk 2 (tblB.getD (n % 2).toNat ⟨#[]⟩) [] [] 0
  else if k % 7 = 2 ∨ k % 7 = 3 then .mk 3 (tblS.getD (n % 11).toNat ⟨#[]⟩) [] [] 0
  else .mk 4 ⟨#[]⟩ [] (Rw.makes l) 0
def Rw.makes : List Rw → List Dt
 | [] => []
 | r :: l => r.make :: Rw.makes l
end
theorem makes_length : ∀ (l : List Rw), (Rw.makes l).length = l.length
 | [] => by simp [Rw.makes]
 | r :: l => by simp [Rw.makes, makes_length l]
theorem makes_append : ∀ (l m : List Rw), Rw.makes (l ++ m) = Rw.makes l ++ Rw.makes m
 | [], m => by simp [Rw.makes]
 | r :: l, m => by simp [Rw.makes, makes_append l m]
theorem makes_take (l : List Rw) (j : Nat) (h : j < l.length) : Rw.makes (l.take (j + 1)) = Rw.makes (l.take j) ++ [l[j].make] := by
 rw [List.take_succ_eq_append_getElem h, makes_append]
 simp [Rw.makes]

end Go.Proofs.Ytecljchifebljaa
namespace Go.Proofs.Ytecljchifebljaa
open Go.RowKit

/-- It returns a new datum. -/
def RetMk (d : Dt) (w : World) (e : Ending) (w' : World) : Prop := ∃ cs, e = .returned (.agg cs) ∧ Dt.At (fun g => w.heap.size ≤ g) w' d cs ∧ Below w.heap.size w w'
theorem within_is (a : Int) (n : Nat) (q : Int) (ha : I64 a) (h1 : 1 ≤ n) (h2 : n ≤ 1000) (hq : a % n = q) (w : World) : Calls Try.prog 52 #[.int .i64 a, .int .i64 n] w fun e w' => e = .returned (.int .i64 q) ∧ w = w' := by
 subst hq
 exact within2_any a n w ha.1 ha.2 (by omega) (by omega)
theorem leaf_new (S : Nat → Prop) (w : World) (k : Int) (t : ByteArray) : Dt.At S w (.mk k t [] [] 0) #[.int .i64 k, .string t, .slice none 0 0, .slice none 0 0, .int .i64 0] := by
 rw [At_mk]; exact ⟨_, _, rfl, .inl ⟨rfl, rfl⟩, .inl ⟨rfl, rfl⟩⟩
/-- The texts as cells. -/
def tcells (l : List ByteArray) : Array Value := (l.map Value.string).toArray
theorem tcells_get (w : World) (g : Nat) (l : List ByteArray) (hg : w.heap[g]? = some (.cells (tcells l) 9 (0, 0))) (i : Nat) (hi : i < l.length) : w.cell? ⟨g, i, none⟩ = some (.string (l.getD i ⟨#[]⟩)) := by
 rw [Lib.cell_of_heap hg]
 unfold tcells
 rw [List.getElem?_toArray, List.getElem?_map, List.getElem?_eq_getElem hi, List.getD_eq_getElem?_getD, List.getElem?_eq_getElem hi]; rfl

/-- The world in which a leaf is made: the raw datum's box, the new datum, the row of texts. -/
def LW (w : World) (raw : Array Value) (l : List ByteArray) : World := ((w.alloc (.cells raw 67)).alloc (.cells Z5 29)).alloc (.cells (tcells l) 9)
theorem LW_new (w : World) (raw : Array Value) (l : List ByteArray) : (LW w raw l).heap[w.heap.size + 1]? = some (.cells Z5 29) := by
 have h := alloc_at (w.alloc (.cells raw 67)) (.cells Z5 29)
 have e : (w.alloc (.cells raw 67)).heap.size = w.heap.size + 1 := by simp
 rw [e] at h
 exact (Lib.alloc_old ((w.alloc (.cells raw 67)).alloc (.cells Z5 29)) (.cells (tcells l) 9) (w.heap.size + 1) (by simp)).trans h
theorem LW_texts (w : World) (raw : Array Value) (l : List ByteArray) : (LW w raw l).heap[w.heap.size + 1 + 1]? = some (.cells (tcells l) 9 (0, 0)) := by
 have h := alloc_at ((w.alloc (.cells raw 67)).alloc (.cells Z5 29)) (.cells (tcells l) 9)
 have e : ((w.alloc (.cells raw 67)).alloc (.cells Z5 29)).heap.size = w.heap.size + 1 + 1 := by simp
 rw [e] at h
 exact h
theorem LW_below (w : World) (raw : Array Value) (l : List ByteArray) : Below w.heap.size w (LW w raw l) :=
 (((Below.refl w.heap.size w).alloc (Nat.le_refl _) (.cells raw 67)).alloc (by simp) (.cells Z5 29)).alloc (by simp; omega) (.cells (tcells l) 9)

set_option maxHeartbeats 4000000 in
theorem make_int (k n : Int) (po : Option Addr) (pl : List Rw) (pc : Nat) (w : World) (hk : I64 k) (hn : I64 n) (h7 : k % 7 = 0) :
  Calls Try.prog 39 #[.agg #[.int .i64 k, .int .i64 n, .slice po pl.length pc]] w (RetMk (.mk 1 (tblI.getD (n % 5).toNat ⟨#[]⟩) [] [] 0) w) := by
 have F1 := Lib.hid (fun w => within_is k 7 0 hk (by decide) (by decide) h7 w)
 obtain ⟨s, hs⟩ : ∃ s : Nat, n % 5 = (s : Int) := ⟨(n % 5).toNat, by omega⟩
 have hs5 : s < 5 := by omega
 have F2 := Lib.hid (fun w => within_is n 5 s hn (by decide) (by decide) hs w)
 have e : (n % 5).toNat = s := by omega
 rw [e]
 have R1 := Lib.hid (LW_new w #[.int .i64 k, .int .i64 n, .slice po pl.length pc] tblI)
 have hC := tcells_get _ _ tblI (LW_texts w #[.int .i64 k, .int .i64 n, .slice po pl.length pc] tblI) s hs5
 generalize tblI.getD s ⟨#[]⟩ = tx at hC ⊢
 have HB := Lib.hid (LW_below w #[.int .i64 k, .int .i64 n, .slice po pl.length pc] tblI)
 have HP := Lib.hid (fun t => leaf_new (fun g => w.heap.size ≤ g) t)
 clear hk hn h7 hs e
 go_enter Try.func39, Try.ntmps39
 go_wp2_with fail
 refine (F1.out _).mono ?_
 rintro e w1 ⟨rfl, rfl⟩
 go_wp2_with fail
 refine Calls.mono (w := LW w #[.int .i64 k, .int .i64 n, .slice po pl.length pc] tblI) (F2.out _) ?_
 generalize LW w #[.int .i64 k, .int .i64 n, .slice po pl.length pc] tblI = W at R1 hC HB
 rintro e w1 ⟨rfl, rfl⟩
 go_wp2_with (refine wpList_store_row rfl 29 _ _ rfl (w.heap.size + 1) #[.int .i64 1, .string tx, .slice none 0 0, .slice none 0 0, .int .i64 0] rfl rfl 29 Z5 R1.out info40 rfl (by simp [Value.oneCell']) ?_)
 refine bodyPost_ret (results_cell_row rfl _ _ (w.heap.size + 1) 29 #[.int .i64 1, .string tx, .slice none 0 0, .slice none 0 0, .int .i64 0] (0, 0) _ rfl (setRow_heap W _ _ _ 29 _ R1.out) Try.underlying29 rfl info40) rfl ?_
 exact ⟨_, rfl, HP.out _ _ _, below_setRow HB.out _ _ (by omega)⟩

set_option maxHeartbeats 4000000 in
theorem make_bool (k n : Int) (po : Option Addr) (pl : List Rw) (pc : Nat) (w : World) (hk : I64 k) (hn : I64 n) (h7 : k % 7 = 1) :
  Calls Try.prog 39 #[.agg #[.int .i64 k, .int .i64 n, .slice po pl.length pc]] w (RetMk (.mk 2 (tblB.getD (n % 2).toNat ⟨#[]⟩) [] [] 0) w) := by
 have F1 := Lib.hid (fun w => within_is k 7 1 hk (by decide) (by decide) h7 w)
 obtain ⟨s, hs⟩ : ∃ s : Nat, n % 2 = (s : Int) := ⟨(n % 2).toNat, by omega⟩
 have hs5 : s < 2 := by omega
 have F2 := Lib.hid (fun w => within_is n 2 s hn (by decide) (by decide) hs w)
 have e : (n % 2).toNat = s := by omega
 rw [e]
 have R1 := Lib.hid (LW_new w #[.int .i64 k, .int .i64 n, .slice po pl.length pc] tblB)
 have hC := tcells_get _ _ tblB (LW_texts w #[.int .i64 k, .int .i64 n, .slice po pl.length pc] tblB) s hs5
 generalize tblB.getD s ⟨#[]⟩ = tx at hC ⊢
 have HB := Lib.hid (LW_below w #[.int .i64 k, .int .i64 n, .slice po pl.length pc] tblB)
 have HP := Lib.hid (fun t => leaf_new (fun g => w.heap.size ≤ g) t)
 clear hk hn h7 hs e
 go_enter Try.func39, Try.ntmps39
 go_wp2_with fail
 refine (F1.out _).mono ?_
 rintro e w1 ⟨rfl, rfl⟩
 go_wp2_with fail
 refine Calls.mono (w := LW w #[.int .i64 k, .int .i64 n, .slice po pl.length pc] tblB) (F2.out _) ?_
 generalize LW w #[.int .i64 k, .int .i64 n, .slice po pl.length pc] tblB = W at R1 hC HB
 rintro e w1 ⟨rfl, rfl⟩
 go_wp2_with (refine wpList_store_row rfl 29 _ _ rfl (w.heap.size + 1) #[.int .i64 2, .string tx, .slice none 0 0, .slice none 0 0, .int .i64 0] rfl rfl 29 Z5 R1.out info40 rfl (by simp [Value.oneCell']) ?_)
 refine bodyPost_ret (results_cell_row rfl _ _ (w.heap.size + 1) 29 #[.int .i64 2, .string tx, .slice none 0 0, .slice none 0 0, .int .i64 0] (0, 0) _ rfl (setRow_heap W _ _ _ 29 _ R1.out) Try.underlying29 rfl info40) rfl ?_
 exact ⟨_, rfl, HP.out _ _ _, below_setRow HB.out _ _ (by omega)⟩

set_option maxHeartbeats 4000000 in
theorem make_sym2 (k n : Int) (po : Option Addr) (pl : List Rw) (pc : Nat) (w : World) (hk : I64 k) (hn : I64 n) (h7 : k % 7 = 2) :
  Calls Try.prog 39 #[.agg #[.int .i64 k, .int .i64 n, .slice po pl.length pc]] w (RetMk (.mk 3 (tblS.getD (n % 11).toNat ⟨#[]⟩) [] [] 0) w) := by
 have F1 := Lib.hid (fun w => within_is k 7 2 hk (by decide) (by decide) h7 w)
 obtain ⟨s, hs⟩ : ∃ s : Nat, n % 11 = (s : Int) := ⟨(n % 11).toNat, by omega⟩
 have hs5 : s < 11 := by omega
 have F2 := Lib.hid (fun w => within_is n 11 s hn (by decide) (by decide) hs w)
 have e : (n % 11).toNat = s := by omega
 rw [e]
 have R1 := Lib.hid (LW_new w #[.int .i64 k, .int .i64 n, .slice po pl.length pc] tblS)
 have hC := tcells_get _ _ tblS (LW_texts w #[.int .i64 k, .int .i64 n, .slice po pl.length pc] tblS) s hs5
 generalize tblS.getD s ⟨#[]⟩ = tx at hC ⊢
 have HB := Lib.hid (LW_below w #[.int .i64 k, .int .i64 n, .slice po pl.length pc] tblS)
 have HP := Lib.hid (fun t => leaf_new (fun g => w.heap.size ≤ g) t)
 clear hk hn h7 hs e
 go_enter Try.func39, Try.ntmps39
 go_wp2_with fail
 refine (F1.out _).mono ?_
 rintro e w1 ⟨rfl, rfl⟩
 go_wp2_with fail
 refine Calls.mono (w := LW w #[.int .i64 k, .int .i64 n, .slice po pl.length pc] tblS) (F2.out _) ?_
 generalize LW w #[.int .i64 k, .int .i64 n, .slice po pl.length pc] tblS = W at R1 hC HB
 rintro e w1 ⟨rfl, rfl⟩
 go_wp2_with (refine wpList_store_row rfl 29 _ _ rfl (w.heap.size + 1) #[.int .i64 3, .string tx, .slice none 0 0, .slice none 0 0, .int .i64 0] rfl rfl 29 Z5 R1.out info40 rfl (by simp [Value.oneCell']) ?_)
 refine bodyPost_ret (results_cell_row rfl _ _ (w.heap.size + 1) 29 #[.int .i64 3, .string tx, .slice none 0 0, .slice none 0 0, .int .i64 0] (0, 0) _ rfl (setRow_heap W _ _ _ 29 _ R1.out) Try.underlying29 rfl info40) rfl ?_
 exact ⟨_, rfl, HP.out _ _ _, below_setRow HB.out _ _ (by omega)⟩

set_option maxHeartbeats 4000000 in
theorem make_sym3 (k n : Int) (po : Option Addr) (pl : List Rw) (pc : Nat) (w : World) (hk : I64 k) (hn : I64 n) (h7 : k % 7 = 3) :
  Calls Try.prog 39 #[.agg #[.int .i64 k, .int .i64 n, .slice po pl.length pc]] w (RetMk (.mk 3 (tblS.getD (n % 11).toNat ⟨#[]⟩) [] [] 0) w) := by
 have F1 := Lib.hid (fun w => within_is k 7 3 hk (by decide) (by decide) h7 w)
 obtain ⟨s, hs⟩ : ∃ s : Nat, n % 11 = (s : Int) := ⟨(n % 11).toNat, by omega⟩
 have hs5 : s < 11 := by omega
 have F2 := Lib.hid (fun w => within_is n 11 s hn (by decide) (by decide) hs w)
 have e : (n % 11).toNat = s := by omega
 rw [e]
 have R1 := Lib.hid (LW_new w #[.int .i64 k, .int .i64 n, .slice po pl.length pc] tblS)
 have hC := tcells_get _ _ tblS (LW_texts w #[.int .i64 k, .int .i64 n, .slice po pl.length pc] tblS) s hs5
 generalize tblS.getD s ⟨#[]⟩ = tx at hC ⊢
 have HB := Lib.hid (LW_below w #[.int .i64 k, .int .i64 n, .slice po pl.length pc] tblS)
 have HP := Lib.hid (fun t => leaf_new (fun g => w.heap.size ≤ g) t)
 clear hk hn h7 hs e
 go_enter Try.func39, Try.ntmps39
 go_wp2_with fail
 refine (F1.out _).mono ?_
 rintro e w1 ⟨rfl, rfl⟩
 go_wp2_with fail
 refine Calls.mono (w := LW w #[.int .i64 k, .int .i64 n, .slice po pl.length pc] tblS) (F2.out _) ?_
 generalize LW w #[.int .i64 k, .int .i64 n, .slice po pl.length pc] tblS = W at R1 hC HB
 rintro e w1 ⟨rfl, rfl⟩
 go_wp2_with (refine wpList_store_row rfl 29 _ _ rfl (w.heap.size + 1) #[.int .i64 3, .string tx, .slice none 0 0, .slice none 0 0, .int .i64 0] rfl rfl 29 Z5 R1.out info40 rfl (by simp [Value.oneCell']) ?_)
 refine bodyPost_ret (results_cell_row rfl _ _ (w.heap.size + 1) 29 #[.int .i64 3, .string tx, .slice none 0 0, .slice none 0 0, .int .i64 0] (0, 0) _ rfl (setRow_heap W _ _ _ 29 _ R1.out) Try.underlying29 rfl info40) rfl ?_
 exact ⟨_, rfl, HP.out _ _ _, below_setRow HB.out _ _ (by omega)⟩

end Go.Proofs.Ytecljchifebljaa
namespace Go.Proofs.Ytecljchifebljaa
open Go.RowKit

theorem makes_list (k n : Int) (pl : List Rw) (q : Int) (h7 : k % 7 = q) (hq : q = 4 ∨ q = 5 ∨ q = 6) : Rw.make (.mk k n pl) = .mk 4 ⟨#[]⟩ [] (Rw.makes pl) 0 := by
 rw [Rw.make, if_neg (by omega), if_neg (by omega), if_neg (by omega)]

/-- The loop of Make, and of All: so many are made, and are held by a row of the call's own. -/
def MInv (l : List Rw) (w : World) (raw : Array Value) (iv : Value) (wr : World) : Prop :=
 ∃ (j : Nat) (v : Value), j ≤ l.length ∧ iv = .int .i64 j ∧ wr.heap[w.heap.size + 1 + 1]? = some (.cells #[.int .i64 4, .string ⟨#[]⟩, .slice none 0 0, v, .int .i64 0] 29 (0, 0)) ∧ OwnD (w.heap.size + 1 + 1 + 1) wr v (Rw.makes (l.take j)) ∧
  wr.heap[w.heap.size + 1]? = some (.cells Z5 29 (0, 0)) ∧ wr.heap[w.heap.size]? = some (.cells raw 67 (0, 0)) ∧ Below w.heap.size w wr ∧ w.heap.size + 1 + 1 < wr.heap.size
/-- The world in which the list is made. -/
def MW (w : World) (raw : Array Value) : World := ((w.alloc (.cells raw 67)).alloc (.cells Z5 29)).alloc (.cells #[.int .i64 4, .string ⟨#[]⟩, .slice none 0 0, .slice none 0 0, .int .i64 0] 29)
theorem MW_inv (l : List Rw) (w : World) (raw : Array Value) : MInv l w raw (.int .i64 0) (MW w raw) := by
 have e1 : (w.alloc (.cells raw 67)).heap.size = w.heap.size + 1 := by simp
 have e2 : ((w.alloc (.cells raw 67)).alloc (.cells Z5 29)).heap.size = w.heap.size + 1 + 1 := by simp
 refine ⟨0, .slice none 0 0, Nat.zero_le _, rfl, ?_, ?_, ?_, ?_, ?_, ?_⟩
 ·have h := alloc_at ((w.alloc (.cells raw 67)).alloc (.cells Z5 29)) (.cells #[.int .i64 4, .string ⟨#[]⟩, .slice none 0 0, .slice none 0 0, .int .i64 0] 29)
  rw [e2] at h; exact h
 ·exact OwnD.nil _ _
 ·have h := alloc_at (w.alloc (.cells raw 67)) (.cells Z5 29)
  rw [e1] at h
  exact (Lib.alloc_old _ _ _ (by simp)).trans h
 ·exact (Lib.alloc_old _ _ _ (by simp; omega)).trans ((Lib.alloc_old _ _ _ (by simp)).trans (alloc_at w (.cells raw 67)))
 ·exact (((Below.refl w.heap.size w).alloc (Nat.le_refl _) (.cells raw 67)).alloc (by simp) (.cells Z5 29)).alloc (by simp; omega) _
 ·simp [MW]
theorem RsAt.block {w : World} {b : Addr} {l : List Rw} (H : RsAt w (some b) l) {j : Nat} (h : j < l.length) : b.block < w.heap.size := by
 obtain ⟨b', k, n, po, pl, pc, e, _, c0, _⟩ := H.get j h
 injection e with e
 subst e
 have := World.block_lt_of_cell? w _ c0
 have e0 : (b.add (j * 3)).block = b.block := by unfold Addr.add; split <;> rfl
 rw [e0] at this; exact this
theorem ih_at (N : Nat) (IH : Hid (∀ (k n : Int) (pl : List Rw), 1 + Rw.cnts pl ≤ N → I64 k → I64 n → ∀ (po : Option Addr) (pc : Nat) (w : World), RsAt w po pl →
   Calls Try.prog 39 #[.agg #[.int .i64 k, .int .i64 n, .slice po pl.length pc]] w (RetMk (Rw.make (.mk k n pl)) w))) {m : Nat} (hm : m ≤ N) {k n : Int} {pl : List Rw} (h : 1 + Rw.cnts pl ≤ m) (hk : I64 k) (hn : I64 n) {w : World} {po : Option Addr} {pc : Nat} (hR : RsAt w po pl) :
  Calls Try.prog 39 #[.agg #[.int .i64 k, .int .i64 n, .slice po pl.length pc]] w (RetMk (Rw.make (.mk k n pl)) w) := IH.out k n pl (by omega) hk hn po pc w hR
/-- A round of Make's loop. -/
theorem made_more {l : List Rw} {w : World} {raw : Array Value} {j : Nat} {v : Value} {wr : World} (hlt : j < l.length) (hl : l.length ≤ 1000000)
  (hgd : wr.heap[w.heap.size + 1 + 1]? = some (.cells #[.int .i64 4, .string ⟨#[]⟩, .slice none 0 0, v, .int .i64 0] 29 (0, 0))) (hown : OwnD (w.heap.size + 1 + 1 + 1) wr v (Rw.makes (l.take j)))
  (hgz : wr.heap[w.heap.size + 1]? = some (.cells Z5 29 (0, 0))) (hgr : wr.heap[w.heap.size]? = some (.cells raw 67 (0, 0))) (hbel : Below w.heap.size w wr) (hbs : w.heap.size + 1 + 1 < wr.heap.size)
  {d : Dt} (hd : l[j].make = d) {cs : Array Value} {w7 : World} (hat : Dt.At (fun g => wr.drew.heap.size ≤ g) w7 d cs) (hb : Below wr.drew.heap.size wr.drew w7) (h5 : cs.size = 5) :
  ∃ xs, (w7.alloc (.cells cs 29)).ownsRow (w.heap.size + 1 + 1 + 1) 29 5 v j xs ∧ w.heap.size + 1 + 1 + 1 ≤ (w7.alloc (.cells cs 29)).heap.size ∧ ∀ v' w9, w9.ownsRow (w.heap.size + 1 + 1 + 1) 29 5 v' (j + 1) (xs ++ cs.toList) → (w7.alloc (.cells cs 29)).grownBy w9 v.ownBlock →
   (v'.ownBlock = v.ownBlock ∨ v'.ownBlock = some (w7.alloc (.cells cs 29)).heap.size) →
   Below (w.heap.size + 1 + 1) wr w9 ∧ w9.heap[w.heap.size + 1 + 1]? = some (.cells #[.int .i64 4, .string ⟨#[]⟩, .slice none 0 0, v, .int .i64 0] 29 (0, 0)) ∧ Below (w.heap.size + 1 + 1) wr (w9.setCell ⟨w.heap.size + 1 + 1, 3, none⟩ v') ∧
    MInv l w raw (.int .i64 ((j : Int) + 1)) (w9.setCell ⟨w.heap.size + 1 + 1, 3, none⟩ v') := by
 have hb' : Below wr.heap.size wr w7 := (Below.refl wr.heap.size wr).drew.trans hb
 have hs7 := hb'.size
 have hb8 : Below wr.heap.size wr (w7.alloc (.cells cs 29)) := hb'.alloc hb'.size _
 obtain ⟨xs, hown8, hx8⟩ := OwnD.below hown hb8
 have hlen : (Rw.makes (l.take j)).length = j := by rw [makes_length, List.length_take]; omega
 rw [hlen] at hown8
 have hvl : ∀ k, v.ownBlock = some k → w.heap.size + 1 + 1 + 1 ≤ k ∧ k < wr.heap.size := by
  obtain ⟨ys, ho, _⟩ := hown
  exact ho.lt
 have hz8 : (w7.alloc (.cells cs 29)).heap.size = w7.heap.size + 1 := by simp
 refine ⟨xs, hown8, by rw [hz8]; omega, fun v' w9 hown9 hg9 hv9 => ?_⟩
 have hB9 : Below (w.heap.size + 1 + 1 + 1) wr w9 := (hb8.mono (by omega)).grown hg9 (by rw [hz8]; omega) (fun k hk => (hvl k hk).1)
 have g9 : w9.heap[w.heap.size + 1 + 1]? = some (.cells #[.int .i64 4, .string ⟨#[]⟩, .slice none 0 0, v, .int .i64 0] 29 (0, 0)) := by rw [hB9.block _ (by omega)]; exact hgd
 have hB10 : Below (w.heap.size + 1 + 1) wr (w9.setCell ⟨w.heap.size + 1 + 1, 3, none⟩ v') := (hB9.mono (Nat.le_succ _)).setCell (p := ⟨w.heap.size + 1 + 1, 3, none⟩) (Nat.le_refl _) v'
 refine ⟨hB9.mono (by omega), g9, hB10, j + 1, v', by omega, by congr 1, ?_, ?_, ?_, ?_, ?_, ?_⟩
 ·exact heap_setCell_same w9 _ 3 _ 29 v' g9
 ·refine OwnD.setCell ?_ (by show w.heap.size + 1 + 1 < _; omega) _
  rw [makes_take l j hlt, hd]
  have hlx : xs.length = j * 5 := hown8.1
  refine OwnD.snoc hx8 (by rw [hlen]; exact hlx) h5 ?_ (by rw [hlen]; exact hown9) hg9 hv9
  have h1 := Dt.At.bound d cs hat
  have h2 := Dt.At.keeps (Keeps.of_below ((Below.refl w7.heap.size w7).alloc (Nat.le_refl _) (.cells cs 29))) d cs h1
  refine Dt.At.mono (fun g hg => ⟨?_, ?_⟩) d cs h2
  ·have : wr.heap.size ≤ g := hg.1; omega
  ·intro e
   have := (hvl g e).2
   have : wr.heap.size ≤ g := hg.1
   omega
 ·rw [hB10.block _ (by omega)]; exact hgz
 ·rw [hB10.block _ (by omega)]; exact hgr
 ·exact hbel.trans (hB10.mono (by omega))
 ·have := hB10.size; omega
theorem list_new {w wr : World} {v : Value} {ds : List Dt} {cs : Array Value} (h : OwnD (w.heap.size + 1 + 1 + 1) wr v ds) (hgz : wr.heap[w.heap.size + 1]? = some (.cells Z5 29 (0, 0))) :
  Dt.At (fun g => w.heap.size ≤ g) (wr.setRow (w.heap.size + 1) cs) (.mk 4 ⟨#[]⟩ [] ds 0) #[.int .i64 4, .string ⟨#[]⟩, .slice none 0 0, v, .int .i64 0] := by
 rw [At_mk]
 refine ⟨_, _, rfl, .inl ⟨rfl, rfl⟩, ?_⟩
 refine LAt.mono (LAt.keeps h.at ?_) (fun g (hg : w.heap.size + 1 + 1 + 1 ≤ g) => by omega)
 intro g c T fz hs hg _
 exact ⟨fz, by rw [setRow_other wr _ g _ (by have : w.heap.size + 1 + 1 + 1 ≤ g := hs; omega)]; exact hg⟩
def RetMk1 (l : List Rw) (w : World) := RetMk (.mk 4 ⟨#[]⟩ [] (Rw.makes l) 0) w

set_option maxHeartbeats 4000000 in
theorem make_list (N : Nat) (hN : N ≤ 1000000) (ih : ∀ (k n : Int) (pl : List Rw), 1 + Rw.cnts pl ≤ N → I64 k → I64 n → ∀ (po : Option Addr) (pc : Nat) (w : World), RsAt w po pl →
   Calls Try.prog 39 #[.agg #[.int .i64 k, .int .i64 n, .slice po pl.length pc]] w (RetMk (Rw.make (.mk k n pl)) w))
  (k n : Int) (l : List Rw) (q : Int) (hk : I64 k) (h7 : k % 7 = q) (hq : q = 4 ∨ q = 5 ∨ q = 6) (hl : Rw.cnts l ≤ N) (ao : Option Addr) (ac : Nat) (w : World) (hR : RsAt w ao l) :
  Calls Try.prog 39 #[.agg #[.int .i64 k, .int .i64 n, .slice ao l.length ac]] w (RetMk1 l w) := by
 have F1 := Lib.hid (fun w => within_is k 7 q hk (by decide) (by decide) h7 w)
 have z0 : (q == 0) = false := by rw [beq_eq_false_iff_ne]; omega
 have z1 : (q == 1) = false := by rw [beq_eq_false_iff_ne]; omega
 have z2 : (q == 2) = false := by rw [beq_eq_false_iff_ne]; omega
 have z3 : (q == 3) = false := by rw [beq_eq_false_iff_ne]; omega
 have hll := length_cnts l
 have hl1 : l.length ≤ 1000000 := by omega
 have IH := Lib.hid ih
 have HR := Lib.hid hR
 have HC := Lib.hid hl
 clear hk h7 hq ih hR hl hll
 go_enter Try.func39, Try.ntmps39
 go_wp2_with fail
 refine (F1.out _).mono ?_
 rintro e w1 ⟨rfl, rfl⟩
 go_wp2_with (first | (refine wpList_store_row rfl 29 _ _ rfl (w.heap.size + 1 + 1) #[.int .i64 4, .string ⟨#[]⟩, .slice none 0 0, .slice none 0 0, .int .i64 0] rfl rfl 29 Z5 (by have := alloc_at ((w.alloc (.cells #[.int .i64 k, .int .i64 n, .slice ao l.length ac] 67)).alloc (.cells Z5 29)) (.cells Z5 29); simp only [World.heap_size_alloc] at this; exact this) info40 rfl (by simp [Value.oneCell']) ?_))
 have HS := Lib.hid (MW_inv l w #[.int .i64 k, .int .i64 n, .slice ao l.length ac])
 go_loopw [4] (fun iv wr => MInv l w #[.int .i64 k, .int .i64 n, .slice ao l.length ac] iv wr) (fun iv _ => l.length - (intOf iv).toNat)
 case atStart => exact HS.out
 case round =>
  clear HS
  obtain ⟨j, v, hj, rfl, hgd, hown, hgz, hgr, hbel, hbs⟩ := hrel
  have HO := Lib.hid hown
  have HB := Lib.hid hbel
  have GZ := Lib.hid hgz
  have GD := Lib.hid hgd
  have GR := Lib.hid hgr
  have cr : wr.cell? ⟨w.heap.size, 2, none⟩ = some (.slice ao l.length ac) := by rw [Lib.cell_of_heap hgr]; rfl
  clear hown hbel hgz hgd hgr
  by_cases hlt : j < l.length
  ·have q1 : decide ((j : Int) < (l.length : Int)) = true := decide_eq_true (by omega)
   obtain ⟨b, k', n', po, pl, pc, rfl, hlj, c0, c1, c2, i1, i2, hpl⟩ := (HR.out.below HB.out).get j hlt
   have hcj := cnts_get l j hlt
   rw [hlj] at hcj
   simp only [Rw.cnt] at hcj
   have hd : l[j].make = (Rw.mk k' n' pl).make := by rw [hlj]
   have HX := Lib.hid (ih_at N IH HC.out hcj i1 i2 (w := wr.drew) (po := po) (pc := pc) (hpl.below (Below.refl _ _).drew))
   have C0 := Lib.hid c0
   have C1 := Lib.hid c1
   have C2 := Lib.hid c2
   have bl : b.block < w.heap.size := RsAt.block HR.out hlt
   have CR := Lib.hid cr
   go_upto_region 13 with fail
   clear cr c0 c1 c2 hlj i1 i2 hpl IH q1
   refine wp_region_noPanic ?_
   refine wp_region_held_drew (S := Below (w.heap.size + 1 + 1) wr) (by kernel_rfl) ((Below.refl _ _).drew) (fun hHeld => ?_)
   refine qts [0, 2, 3, 4, 5, 6] hHeld ?_
   (refine qtc (v := Value.pointer (some ⟨w.heap.size + 1 + 1, 3, none⟩)) rfl rfl (fun w' hw' => ?_) ?_; (focus (go_simp)); simp only [zt,zs,zz,Act.put,zi,zy,zx])
   (refine qtc (v := Value.pointer (some ⟨w.heap.size, 2, none⟩)) rfl rfl (fun w' hw' => ?_) ?_; (focus (go_simp)); simp only [zt,zs,zz,Act.put,zi,zy,zx])
   (refine qtc (v := Value.slice (some b) l.length ac) rfl rfl (fun w' hw' => ?_) ?_; (focus (have c := (hw'.cell (p := ⟨w.heap.size, 2, none⟩) (by show w.heap.size < _; omega)).trans CR.out; go_simp)); simp only [zt,zs,zz,Act.put,zi,zy,zx])
   (refine qtc (v := Value.int .i64 j) rfl rfl (fun w' hw' => ?_) ?_; (focus (go_simp)); simp only [zt,zs,zz,Act.put,zi,zy,zx])
   (refine qtc (v := Value.pointer (some (b.add (j * 3)))) rfl rfl (fun w' hw' => ?_) ?_; (focus (go_simp)); simp only [zt,zs,zz,Act.put,zi,zy,zx])
   (refine qtc (v := Value.agg #[.int .i64 k', .int .i64 n', .slice po pl.length pc]) rfl rfl (fun w' hw' => ?_) ?_; (focus (have q0 := (hw'.cell (p := b.add (j * 3)) (by rw [add_block]; omega)).trans C0.out; have q1 := (hw'.cell (p := ⟨(b.add (j * 3)).block, (b.add (j * 3)).off + 1, none⟩) (by show (b.add (j * 3)).block < _; rw [add_block]; omega)).trans C1.out; have q2 := (hw'.cell (p := ⟨(b.add (j * 3)).block, (b.add (j * 3)).off + 2, none⟩) (by show (b.add (j * 3)).block < _; rw [add_block]; omega)).trans C2.out; go_simp)); simp only [zt,zs,zz,Act.put,zi,zy,zx])
   refine qtn ?_
   simp only [zt,zs,zz,Act.put,zi,zy,zx,qzl,qzn,qza,Nat.reduceAdd,Nat.reduceSub]
   refine wpAnyH_ready (rs := [1, 7]) (by kernel_rfl) (by simp) ?_
   refine (AllReadyH.cons rfl (fun K hK => ?_) (AllReadyH.cons rfl (fun K hK => ?_) AllReadyH.nil))
   ·skip
    have c45 := (show wr.cell? ⟨w.heap.size + 1 + 1, 3, none⟩ = some v by rw [Lib.cell_of_heap GD.out]; rfl)
    go_simp
    refine hK.out _ _ hHeld (fun hHeld => ?_)
    clear hK K c45
    try simp only [zt,zs,zz,Act.put,zi,zy,zx]
    refine wpAnyH_ready (rs := [7]) (by kernel_rfl) (by simp) ?_
    refine (AllReadyH.cons rfl (fun K hK => ?_) AllReadyH.nil)
    go_simp
    refine HX.out.mono ?_
    rintro e w7 ⟨cs, rfl, hat, hb⟩
    obtain ⟨k5, t5, mv5, lv5, p5, rfl, o1, o2⟩ := At_form hat
    obtain ⟨xs, hown8, hz8, hnx⟩ := made_more hlt hl1 GD.out HO.out GZ.out GR.out HB.out hbs hd hat hb rfl
    have HN := Lib.hid hnx
    have HO8 := Lib.hid hown8
    have hb7 : Below (w.heap.size + 1 + 1 + 1) wr w7 := ((Below.refl wr.heap.size wr).drew.trans hb).mono (by omega)
    have HB7 := Lib.hid hb7
    have hS7 := hb7.mono (show w.heap.size + 1 + 1 ≤ w.heap.size + 1 + 1 + 1 by omega)
    have hz7 := hb7.size
    refine hK.out _ _ hS7 (fun hHeld => ?_)
    clear hK K hat hb hown8 hnx hb7 hS7
    try simp only [zt,zs,zz,Act.put,zi,zy,zx]
    refine wpAnyH_ready (rs := [8]) (by kernel_rfl) (by simp) ?_
    refine (AllReadyH.cons rfl (fun K hK => ?_) AllReadyH.nil)
    go_simp
    refine hK.out _ _ (hHeld.alloc (by omega) _) (fun hHeld => ?_)
    clear hK K
    try simp only [zt,zs,zz,Act.put,zi,zy,zx]
    refine wpAnyH_ready (rs := [9]) (by kernel_rfl) (by simp) ?_
    refine (AllReadyH.cons rfl (fun K hK => ?_) AllReadyH.nil)
    rw [if_pos (by rfl)]
    refine wp_app (Operand.tmp 45) (Operand.tmp 52) rfl (w.heap.size + 1 + 1 + 1) v j xs rfl HO8.out w7.heap.size 1 rfl [.int .i64 k5, .string t5, mv5, lv5, .int .i64 p5] rfl (fun i u hu => ?_) (by simp; exact ⟨rfl, rfl, o1, o2, rfl⟩) (by omega) hz8 ?_
    ·rw [Lib.cell_of_heap (alloc_at w7 (.cells #[.int .i64 k5, .string t5, mv5, lv5, .int .i64 p5] 29))]; simpa using hu
    intro v' w9 hown9 hg9 hv9
    obtain ⟨so, sn, sc, rfl⟩ := own_form hown9
    obtain ⟨hS9, g9, hS10, hM⟩ := HN.out _ w9 hown9 hg9 hv9
    have HM := Lib.hid hM
    have HS := Lib.hid hS10
    have cc : w9.cell? ⟨w.heap.size + 1 + 1, 3, none⟩ = some v := by rw [Lib.cell_of_heap g9]; rfl
    have cf := frozen_of_row w9 (w.heap.size + 1 + 1) 3 _ 29 g9
    refine hK.out _ _ hS9 (fun hHeld => ?_)
    clear hK K hown9 hg9 hv9 hS10 hM g9 HN HO8 hS9
    try simp only [zt,zs,zz,Act.put,zi,zy,zx]
    refine qtk (i := 10) (v := Value.pointer (some ⟨w.heap.size + 1 + 1, 3, none⟩)) rfl rfl (fun w' hw' => ?_) hHeld ?_
    ·go_simp
    simp only [zt,zs,zz,Act.put,zi,zy,zx]
    refine wpAnyH_ready (rs := [11]) (by kernel_rfl) (by simp) ?_
    refine (AllReadyH.cons rfl (fun K hK => ?_) AllReadyH.nil)
    go_simp
    refine hK.out _ _ HS.out (fun hHeld => ?_)
    clear hK K cc cf
    try simp only [zt,zs,zz,Act.put,zi,zy,zx]
    refine wpAnyH_done (by kernel_rfl) ?_ _
    refine NoPanic.normal ?_
    clear hHeld
    go_wp2_with fail
    go_roundw
    case rel => exact HM.out
    case measure => simp [intOf]; omega
   ·skip
    go_simp
    refine HX.out.mono ?_
    rintro e w7 ⟨cs, rfl, hat, hb⟩
    obtain ⟨k5, t5, mv5, lv5, p5, rfl, o1, o2⟩ := At_form hat
    obtain ⟨xs, hown8, hz8, hnx⟩ := made_more hlt hl1 GD.out HO.out GZ.out GR.out HB.out hbs hd hat hb rfl
    have HN := Lib.hid hnx
    have HO8 := Lib.hid hown8
    have hb7 : Below (w.heap.size + 1 + 1 + 1) wr w7 := ((Below.refl wr.heap.size wr).drew.trans hb).mono (by omega)
    have HB7 := Lib.hid hb7
    have hS7 := hb7.mono (show w.heap.size + 1 + 1 ≤ w.heap.size + 1 + 1 + 1 by omega)
    have hz7 := hb7.size
    refine hK.out _ _ hS7 (fun hHeld => ?_)
    clear hK K hat hb hown8 hnx hb7 hS7
    try simp only [zt,zs,zz,Act.put,zi,zy,zx]
    refine wpAnyH_ready (rs := [1, 8]) (by kernel_rfl) (by simp) ?_
    refine (AllReadyH.cons rfl (fun K hK => ?_) (AllReadyH.cons rfl (fun K hK => ?_) AllReadyH.nil))
    ·skip
     have c45 := (show w7.cell? ⟨w.heap.size + 1 + 1, 3, none⟩ = some v by rw [HB7.out.cell (p := ⟨w.heap.size + 1 + 1, 3, none⟩) (by show w.heap.size + 1 + 1 < _; omega), Lib.cell_of_heap GD.out]; rfl)
     go_simp
     refine hK.out _ _ hHeld (fun hHeld => ?_)
     clear hK K c45
     try simp only [zt,zs,zz,Act.put,zi,zy,zx]
     refine wpAnyH_ready (rs := [8]) (by kernel_rfl) (by simp) ?_
     refine (AllReadyH.cons rfl (fun K hK => ?_) AllReadyH.nil)
     go_simp
     refine hK.out _ _ (hHeld.alloc (by omega) _) (fun hHeld => ?_)
     clear hK K
     try simp only [zt,zs,zz,Act.put,zi,zy,zx]
     refine wpAnyH_ready (rs := [9]) (by kernel_rfl) (by simp) ?_
     refine (AllReadyH.cons rfl (fun K hK => ?_) AllReadyH.nil)
     rw [if_pos (by rfl)]
     refine wp_app (Operand.tmp 45) (Operand.tmp 52) rfl (w.heap.size + 1 + 1 + 1) v j xs rfl HO8.out w7.heap.size 1 rfl [.int .i64 k5, .string t5, mv5, lv5, .int .i64 p5] rfl (fun i u hu => ?_) (by simp; exact ⟨rfl, rfl, o1, o2, rfl⟩) (by omega) hz8 ?_
     ·rw [Lib.cell_of_heap (alloc_at w7 (.cells #[.int .i64 k5, .string t5, mv5, lv5, .int .i64 p5] 29))]; simpa using hu
     intro v' w9 hown9 hg9 hv9
     obtain ⟨so, sn, sc, rfl⟩ := own_form hown9
     obtain ⟨hS9, g9, hS10, hM⟩ := HN.out _ w9 hown9 hg9 hv9
     have HM := Lib.hid hM
     have HS := Lib.hid hS10
     have cc : w9.cell? ⟨w.heap.size + 1 + 1, 3, none⟩ = some v := by rw [Lib.cell_of_heap g9]; rfl
     have cf := frozen_of_row w9 (w.heap.size + 1 + 1) 3 _ 29 g9
     refine hK.out _ _ hS9 (fun hHeld => ?_)
     clear hK K hown9 hg9 hv9 hS10 hM g9 HN HO8 hS9
     try simp only [zt,zs,zz,Act.put,zi,zy,zx]
     refine qtk (i := 10) (v := Value.pointer (some ⟨w.heap.size + 1 + 1, 3, none⟩)) rfl rfl (fun w' hw' => ?_) hHeld ?_
     ·go_simp
     simp only [zt,zs,zz,Act.put,zi,zy,zx]
     refine wpAnyH_ready (rs := [11]) (by kernel_rfl) (by simp) ?_
     refine (AllReadyH.cons rfl (fun K hK => ?_) AllReadyH.nil)
     go_simp
     refine hK.out _ _ HS.out (fun hHeld => ?_)
     clear hK K cc cf
     try simp only [zt,zs,zz,Act.put,zi,zy,zx]
     refine wpAnyH_done (by kernel_rfl) ?_ _
     refine NoPanic.normal ?_
     clear hHeld
     go_wp2_with fail
     go_roundw
     case rel => exact HM.out
     case measure => simp [intOf]; omega
    ·skip
     go_simp
     refine hK.out _ _ (hHeld.alloc (by omega) _) (fun hHeld => ?_)
     clear hK K
     try simp only [zt,zs,zz,Act.put,zi,zy,zx]
     refine wpAnyH_ready (rs := [1]) (by kernel_rfl) (by simp) ?_
     refine (AllReadyH.cons rfl (fun K hK => ?_) AllReadyH.nil)
     have c45 := (show (w7.alloc (.cells #[.int .i64 k5, .string t5, mv5, lv5, .int .i64 p5] 29)).cell? ⟨w.heap.size + 1 + 1, 3, none⟩ = some v by rw [(HB7.out.alloc (by omega) _).cell (p := ⟨w.heap.size + 1 + 1, 3, none⟩) (by show w.heap.size + 1 + 1 < _; omega), Lib.cell_of_heap GD.out]; rfl)
     go_simp
     refine hK.out _ _ hHeld (fun hHeld => ?_)
     clear hK K c45
     try simp only [zt,zs,zz,Act.put,zi,zy,zx]
     refine wpAnyH_ready (rs := [9]) (by kernel_rfl) (by simp) ?_
     refine (AllReadyH.cons rfl (fun K hK => ?_) AllReadyH.nil)
     rw [if_pos (by rfl)]
     refine wp_app (Operand.tmp 45) (Operand.tmp 52) rfl (w.heap.size + 1 + 1 + 1) v j xs rfl HO8.out w7.heap.size 1 rfl [.int .i64 k5, .string t5, mv5, lv5, .int .i64 p5] rfl (fun i u hu => ?_) (by simp; exact ⟨rfl, rfl, o1, o2, rfl⟩) (by omega) hz8 ?_
     ·rw [Lib.cell_of_heap (alloc_at w7 (.cells #[.int .i64 k5, .string t5, mv5, lv5, .int .i64 p5] 29))]; simpa using hu
     intro v' w9 hown9 hg9 hv9
     obtain ⟨so, sn, sc, rfl⟩ := own_form hown9
     obtain ⟨hS9, g9, hS10, hM⟩ := HN.out _ w9 hown9 hg9 hv9
     have HM := Lib.hid hM
     have HS := Lib.hid hS10
     have cc : w9.cell? ⟨w.heap.size + 1 + 1, 3, none⟩ = some v := by rw [Lib.cell_of_heap g9]; rfl
     have cf := frozen_of_row w9 (w.heap.size + 1 + 1) 3 _ 29 g9
     refine hK.out _ _ hS9 (fun hHeld => ?_)
     clear hK K hown9 hg9 hv9 hS10 hM g9 HN HO8 hS9
     try simp only [zt,zs,zz,Act.put,zi,zy,zx]
     refine qtk (i := 10) (v := Value.pointer (some ⟨w.heap.size + 1 + 1, 3, none⟩)) rfl rfl (fun w' hw' => ?_) hHeld ?_
     ·go_simp
     simp only [zt,zs,zz,Act.put,zi,zy,zx]
     refine wpAnyH_ready (rs := [11]) (by kernel_rfl) (by simp) ?_
     refine (AllReadyH.cons rfl (fun K hK => ?_) AllReadyH.nil)
     go_simp
     refine hK.out _ _ HS.out (fun hHeld => ?_)
     clear hK K cc cf
     try simp only [zt,zs,zz,Act.put,zi,zy,zx]
     refine wpAnyH_done (by kernel_rfl) ?_ _
     refine NoPanic.normal ?_
     clear hHeld
     go_wp2_with fail
     go_roundw
     case rel => exact HM.out
     case measure => simp [intOf]; omega
  ·obtain rfl : j = l.length := by omega
   have HO' := HO.out
   rw [List.take_length] at HO'
   have HQ := Lib.hid HO'
   have q1 : decide ((l.length : Int) < (l.length : Int)) = false := decide_eq_false (by omega)
   clear HO HO' cr hlt
   have cr : wr.cell? ⟨w.heap.size, 2, none⟩ = some (.slice ao l.length ac) := by rw [Lib.cell_of_heap GR.out]; rfl
   go_wp2_with (first | (refine wpList_load_row rfl 29 _ rfl (w.heap.size + 1 + 1) rfl 29 #[.int .i64 4, .string ⟨#[]⟩, .slice none 0 0, v, .int .i64 0] (0, 0) _ GD.out Try.underlying29 rfl info40 ?_) | (refine wpList_store_row rfl 29 _ _ rfl (w.heap.size + 1) #[.int .i64 4, .string ⟨#[]⟩, .slice none 0 0, v, .int .i64 0] rfl rfl 29 Z5 GZ.out info40 rfl (by simp [Value.oneCell']; exact HQ.out.at.one) ?_))
   refine bodyPost_ret (results_cell_row rfl _ _ (w.heap.size + 1) 29 #[.int .i64 4, .string ⟨#[]⟩, .slice none 0 0, v, .int .i64 0] (0, 0) _ rfl (setRow_heap wr _ _ _ 29 _ GZ.out) Try.underlying29 rfl info40) rfl ?_
   exact ⟨_, rfl, list_new HQ.out GZ.out, below_setRow HB.out _ _ (by omega)⟩

theorem make_any (N : Nat) (hN : N ≤ 1000000) : ∀ (k n : Int) (pl : List Rw), 1 + Rw.cnts pl ≤ N → I64 k → I64 n → ∀ (po : Option Addr) (pc : Nat) (w : World), RsAt w po pl →
   Calls Try.prog 39 #[.agg #[.int .i64 k, .int .i64 n, .slice po pl.length pc]] w (RetMk (Rw.make (.mk k n pl)) w) := by
 induction N with
 | zero => intro k n pl h; omega
 | succ N ih =>
  intro k n pl h hk hn po pc w hR
  have h0 := Int.emod_nonneg k (show (7 : Int) ≠ 0 by decide)
  have h6 := Int.emod_lt_of_pos k (show (0 : Int) < 7 by decide)
  obtain ⟨q, h7⟩ : ∃ q, k % 7 = q := ⟨_, rfl⟩
  rw [h7] at h0 h6
  by_cases hq : q = 4 ∨ q = 5 ∨ q = 6
  ·rw [makes_list k n pl q h7 hq]
   exact make_list N (by omega) (ih (by omega)) k n pl q hk h7 hq (by omega) po pc w hR
  ·by_cases q0 : q = 0
   ·subst q0; rw [Rw.make, if_pos h7]; exact make_int k n po pl pc w hk hn h7
   ·by_cases q1 : q = 1
    ·subst q1; rw [Rw.make, if_neg (by omega), if_pos h7]; exact make_bool k n po pl pc w hk hn h7
    ·by_cases q2 : q = 2
     ·subst q2; rw [Rw.make, if_neg (by omega), if_neg (by omega), if_pos (by omega)]; exact make_sym2 k n po pl pc w hk hn h7
     ·have q3 : q = 3 := by omega
      subst q3; rw [Rw.make, if_neg (by omega), if_neg (by omega), if_pos (by omega)]; exact make_sym3 k n po pl pc w hk hn h7
end Go.Proofs.Ytecljchifebljaa
