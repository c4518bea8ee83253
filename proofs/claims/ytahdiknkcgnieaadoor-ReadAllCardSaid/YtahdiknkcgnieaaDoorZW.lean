/- The law's own within. -/
import Derived.Test.YtahdiknkcgnieaaDoorJ18
import Derived.Deep.Slices
import Derived.Deep.Fields
import Derived.ChangeSame
import Derived.Below
import Derived.Deep.Cut
import Derived.Lib.TrimByte
import Derived.Laws.MakeOwn
import Derived.Laws.BytesArg
import Derived.Deep.QuietTactic
import Derived.Deep.RegionHeld3
namespace Go.Proofs.YtahdiknkcgnieaaDoor
open Go.RowKit
set_option linter.unusedVariables false

/-- Some number from 0 to n - 1 comes back. -/
def SomeR (n : Nat) (w : World) (e : Ending) (w' : World) : Prop := ∃ r : Nat, r < n ∧ e = .returned (.int .i64 r) ∧ w = w'
def I64 (a : Int) : Prop := -9223372036854775808 ≤ a ∧ a ≤ 9223372036854775807
theorem wf_I64 (a : Int) (h : (Lit.int .i64 a).wf = true) : I64 a := by
  simpa [Lit.wf, IntKind.min, IntKind.max, IntKind.signed, IntKind.bits, I64] using h
theorem within2_some (a : Int) (n : Nat) (ha : I64 a) (h1 : 1 ≤ n) (h2 : n ≤ 1000) (w : World) : Calls Tryd.prog 53 #[.int .i64 a, .int .i64 n] w (SomeR n w) := by
  refine (within2_any a n w ha.1 ha.2 (by omega) (by omega)).mono ?_
  rintro e w' ⟨he, hw⟩
  have h3 := Int.emod_nonneg a (show (n : Int) ≠ 0 by omega)
  have h4 := Int.emod_lt_of_pos a (show (0 : Int) < n by omega)
  exact ⟨(a % n).toNat, by omega, by rw [he]; exact ret_int (by omega), hw⟩
/-- What is known of a slice of integers that came in: it is nil, or leads to a row of so many cells. -/
def IsRow (k : IntKind) (w : World) (a : Option Addr) (len cap : Nat) (zs : List Int) : Prop :=
  (a = none ∧ len = 0 ∧ cap = 0 ∧ zs = []) ∨
  ∃ x, a = some x ∧ len ≤ cap ∧ cap ≤ maxLen ∧ zs.length = cap ∧ (∀ i, i < zs.length → w.cell? (x.add i) = some (.int k (zs.getD i 0))) ∧ ∀ n ∈ zs, (Lit.int k n).wf = true
end Go.Proofs.YtahdiknkcgnieaaDoor
namespace Go.Proofs.YtahdiknkcgnieaaDoor
open Go.RowKit Go.ChangeShapes Go.WideShapes Go.Deep
set_option linter.unusedVariables false

/-- A raw datum: two numbers, and parts. -/
inductive Rw where
  | mk (k n : Int) (l : List Rw) : Rw
namespace Rw
def num : Rw → Int | mk k _ _ => k
def at_ : Rw → Int | mk _ n _ => n
def parts : Rw → List Rw | mk _ _ l => l
mutual
/-- How many there are, with itself. -/
def cnt : Rw → Nat
  | mk _ _ l => 1 + cnts l
def cnts : List Rw → Nat
  | [] => 0
  | r :: l => r.cnt + cnts l
end
end Rw

mutual
/-- At this address lies this raw datum. -/
def Rw.At (w : World) : Rw → Addr → Prop
  | .mk k n l, a => w.cell? (a.add 0) = some (.int .i64 k) ∧ w.cell? (a.add 1) = some (.int .i64 n) ∧ I64 k ∧ I64 n ∧
      ∃ ao cap, w.cell? (a.add 2) = some (.slice ao l.length cap) ∧ l.length ≤ maxLen ∧ (l = [] ∨ ∃ b, ao = some b ∧ Rws.At w l b)
/-- From this address on lie these, one behind the other. -/
def Rws.At (w : World) : List Rw → Addr → Prop
  | [], _ => True
  | r :: l, b => Rw.At w r b ∧ Rws.At w l (b.add 3)
end
/-- A slice that reads as these. -/
def RsAt (w : World) (ao : Option Addr) (l : List Rw) : Prop := l.length ≤ maxLen ∧ (l = [] ∨ ∃ b, ao = some b ∧ Rws.At w l b)

theorem Rws.At.get {w : World} : ∀ (l : List Rw) (b : Addr), Rws.At w l b → ∀ j (h : j < l.length), Rw.At w l[j] (b.add (j * 3))
  | [], _, _, j, h => by simp at h
  | r :: l, b, H, 0, _ => by
    unfold Rws.At at H
    have e : b.add (0 * 3) = b := by simp [Addr.add]
    rw [e]; exact H.1
  | r :: l, b, H, j + 1, h => by
    unfold Rws.At at H
    have := Rws.At.get l (b.add 3) H.2 j (by simpa using h)
    rw [add_add] at this
    have e : 3 + j * 3 = (j + 1) * 3 := by omega
    rw [e] at this
    exact this
theorem Rws.At.of_get {w : World} : ∀ (l : List Rw) (b : Addr), (∀ j (h : j < l.length), Rw.At w l[j] (b.add (j * 3))) → Rws.At w l b
  | [], _, _ => by unfold Rws.At; trivial
  | r :: l, b, H => by
    unfold Rws.At
    refine ⟨?_, Rws.At.of_get l (b.add 3) fun j h => ?_⟩
    · have := H 0 (by simp)
      have e : b.add (0 * 3) = b := by simp [Addr.add]
      rw [e] at this; exact this
    · have := H (j + 1) (by simpa using h)
      rw [add_add]
      have e : 3 + j * 3 = (j + 1) * 3 := by omega
      rw [e]; exact this
theorem cell_below {w w' : World} (h : Below w.heap.size w w') {a : Addr} {v : Value} (hc : w.cell? a = some v) : w'.cell? a = some v := by
  rw [h.cell (World.block_lt_of_cell? w a hc)]; exact hc
mutual
theorem Rw.At.below {w w' : World} (h : Below w.heap.size w w') : ∀ (r : Rw) (a : Addr), Rw.At w r a → Rw.At w' r a
  | .mk k n l, a, H => by
    unfold Rw.At at H ⊢
    obtain ⟨h1, h2, h3, h4, ao, cap, h5, h6, h7⟩ := H
    refine ⟨cell_below h h1, cell_below h h2, h3, h4, ao, cap, cell_below h h5, h6, ?_⟩
    rcases h7 with h7 | ⟨b, h8, h9⟩
    · exact .inl h7
    · exact .inr ⟨b, h8, Rws.At.below h l b h9⟩
theorem Rws.At.below {w w' : World} (h : Below w.heap.size w w') : ∀ (l : List Rw) (b : Addr), Rws.At w l b → Rws.At w' l b
  | [], _, _ => by unfold Rws.At; trivial
  | r :: l, b, H => by
    unfold Rws.At at H ⊢
    exact ⟨Rw.At.below h r b H.1, Rws.At.below h l (b.add 3) H.2⟩
end
theorem RsAt.below {w w' : World} {ao : Option Addr} {l : List Rw} (H : RsAt w ao l) (h : Below w.heap.size w w') : RsAt w' ao l := by
  refine ⟨H.1, ?_⟩
  rcases H.2 with h7 | ⟨b, h8, h9⟩
  · exact .inl h7
  · exact .inr ⟨b, h8, Rws.At.below h l b h9⟩
/-- One part of a slice: its cells, and its own parts. -/
theorem RsAt.get {w : World} {ao : Option Addr} {l : List Rw} (H : RsAt w ao l) (j : Nat) (h : j < l.length) :
    ∃ b k n po pl pc, ao = some b ∧ l[j] = .mk k n pl ∧ w.cell? (b.add (j * 3)) = some (.int .i64 k) ∧ w.cell? ⟨(b.add (j * 3)).block, (b.add (j * 3)).off + 1, none⟩ = some (.int .i64 n) ∧ w.cell? ⟨(b.add (j * 3)).block, (b.add (j * 3)).off + 2, none⟩ = some (.slice po pl.length pc) ∧
      I64 k ∧ I64 n ∧ RsAt w po pl := by
  rcases H.2 with rfl | ⟨b, h8, h9⟩
  · simp at h
  · have := Rws.At.get l b h9 j h
    generalize hd : l[j] = d at this
    obtain ⟨k, n, pl⟩ := d
    unfold Rw.At at this
    obtain ⟨h1, h2, h3, h4, po, pc, h5, h6, h7⟩ := this
    have e : (b.add (j * 3)).add 0 = b.add (j * 3) := by simp [Addr.add]
    rw [e] at h1
    exact ⟨b, k, n, po, pl, pc, h8, rfl, h1, h2, h5, h3, h4, h6, h7⟩
theorem cnts_get : ∀ (l : List Rw) (j : Nat) (h : j < l.length), l[j].cnt ≤ Rw.cnts l
  | [], j, h => by simp at h
  | r :: l, 0, _ => by simp [Rw.cnts]
  | r :: l, j + 1, h => by
    have := cnts_get l j (by simpa using h)
    simp only [Rw.cnts, List.getElem_cons_succ]; omega
theorem length_cnts : ∀ (l : List Rw), l.length ≤ Rw.cnts l
  | [] => by simp
  | r :: l => by
    have h1 := length_cnts l
    have h2 : 1 ≤ r.cnt := by cases r; simp only [Rw.cnt]; omega
    simp only [List.length_cons, Rw.cnts]; omega
end Go.Proofs.YtahdiknkcgnieaaDoor
namespace Go.Proofs.YtahdiknkcgnieaaDoor
open Go.RowKit Go.ChangeShapes Go.WideShapes Go.Deep
set_option linter.unusedVariables false

theorem list_of {α : Type} (p : Nat → α → Prop) : ∀ (n : Nat), (∀ i, i < n → ∃ r, p i r) → ∃ l : List α, l.length = n ∧ ∀ i (h : i < l.length), p i l[i]
  | 0, _ => ⟨[], rfl, fun i h => by simp at h⟩
  | n + 1, H => by
    obtain ⟨l, hl, hp⟩ := list_of p n (fun i hi => H i (by omega))
    obtain ⟨r, hr⟩ := H n (by omega)
    refine ⟨l ++ [r], by simp [hl], fun i h => ?_⟩
    by_cases hi : i < l.length
    · rw [List.getElem_append_left hi]; exact hp i hi
    · have : i = l.length := by simp at h; omega
      subst this
      rw [List.getElem_append_right (by omega)]
      simp [hl]; exact hr
theorem cells47 : Tryd.prog.cellsOf 74 = 3 := by kernel_rfl

section
variable {H : Type} {enc : TypeId × Value → H} {w : World} {base : Nat} {spare : Nat → Bool} {held : Bool}
set_option maxRecDepth 100000 in
theorem raws_open (N : Nat) : ∀ (fuel : Nat), fuel ≤ N → ∀ (cs : List Value) (x : DataW H × List MemPlace), DataW.trod enc Tryd.prog w base spare held fuel 35 cs = some x →
    ∃ ao cap, ∃ l : List Rw, cs = [.slice ao l.length cap] ∧ RsAt w ao l := by
  induction N with
  | zero =>
    intro fuel hf cs x h
    obtain rfl : fuel = 0 := by omega
    simp [DataW.trod] at h
  | succ N ih =>
    intro fuel hf cs x h
    rcases DataW.trod_slice Tryd.underlying35 h with ⟨rfl, _⟩ | ⟨a, len, cap, elems, rest, n, rfl, rfl, _, _, hlc, hcm, hlen, hel, _, _⟩
    · exact ⟨none, 0, [], rfl, by simp [maxLen], .inl rfl⟩
    · have one : ∀ i, i < len → ∃ r, Rw.At w r (a.add (i * 3)) := by
        intro i hi
        have h1 := hel i hi
        rw [cells47] at h1
        have h2 : elems[i]? = some (elems[i]'(by omega)) := List.getElem?_eq_getElem (by omega)
        rw [h2] at h1
        obtain ⟨cs', hc, ht⟩ := Option.bind_eq_some_iff.1 h1
        obtain ⟨_, hcl, hat⟩ := World.cells?_some hc
        obtain ⟨ys, n', rfl, _, _, hyl, hfield⟩ := DataW.trod_struct Tryd.underlying74 ht
        match cs', hcl with
        | [c0, c1, c2], _ =>
          have f0 := hfield 0 _ rfl
          have f1 := hfield 1 _ rfl
          have f2 := hfield 2 _ rfl
          obtain ⟨y0, g0⟩ : ∃ y, ys[0]? = some y := ⟨_, List.getElem?_eq_getElem (by rw [hyl]; decide)⟩
          obtain ⟨y1, g1⟩ : ∃ y, ys[1]? = some y := ⟨_, List.getElem?_eq_getElem (by rw [hyl]; decide)⟩
          obtain ⟨y2, g2⟩ : ∃ y, ys[2]? = some y := ⟨_, List.getElem?_eq_getElem (by rw [hyl]; decide)⟩
          have c1' : Tryd.prog.cellsOf 3 = 1 := by kernel_rfl
          have c2' : Tryd.prog.cellsOf 35 = 1 := by kernel_rfl
          have f0' : DataW.trod enc Tryd.prog w base spare held n' 3 [c0] = some y0 := by
            have := f0.trans g0
            simpa [c1'] using this
          have f1' : DataW.trod enc Tryd.prog w base spare held n' 3 [c1] = some y1 := by
            have := f1.trans g1
            simpa [c1'] using this
          have f2' : DataW.trod enc Tryd.prog w base spare held n' 35 [c2] = some y2 := by
            have := f2.trans g2
            simpa [c2'] using this
          obtain ⟨k, e0, _, w0⟩ := DataW.trod_int Tryd.underlying3 f0'
          obtain ⟨m, e1, _, w1⟩ := DataW.trod_int Tryd.underlying3 f1'
          obtain ⟨po, pc, pl, e2, hp⟩ := ih n' (by omega) _ _ f2'
          have q0 := hat 0 (by decide)
          have q1 := hat 1 (by decide)
          have q2 := hat 2 (by decide)
          simp only [List.cons.injEq, and_true] at e0 e1 e2
          subst e0 e1 e2
          refine ⟨.mk k m pl, ?_⟩
          unfold Rw.At
          exact ⟨q0, q1, wf_I64 _ w0, wf_I64 _ w1, po, pc, q2, hp.1, hp.2⟩
      obtain ⟨l, hl, hp⟩ := list_of _ len one
      subst hl
      exact ⟨some a, cap, l, rfl, by omega, .inr ⟨a, rfl, Rws.At.of_get l a hp⟩⟩
set_option maxRecDepth 100000 in
/-- A slice of raw data among the arguments. -/
theorem open_raws {v : Value} {d : DataW H} {p : List MemPlace} (hv : ∃ a n c, v = .slice a n c) (h : DataW.Trod enc Tryd.prog w base spare held 35 v d p) :
    ∃ ao cap, ∃ l : List Rw, v = .slice ao l.length cap ∧ RsAt w ao l := by
  obtain ⟨a, n, c, rfl⟩ := hv
  obtain ⟨fuel, hf⟩ := h
  obtain ⟨ao, cap, l, e, hl⟩ := raws_open fuel fuel (Nat.le_refl _) _ _ hf
  simp [Value.cells] at e
  obtain ⟨rfl, rfl, rfl⟩ := e
  exact ⟨_, _, l, rfl, hl⟩
end
end Go.Proofs.YtahdiknkcgnieaaDoor
namespace Go.Proofs.YtahdiknkcgnieaaDoor
open Go.RowKit
set_option linter.unusedVariables false
set_option linter.unusedSimpArgs false

theorem cnts_take (l : List Rw) (j : Nat) (h : j < l.length) : Rw.cnts (l.take (j + 1)) = Rw.cnts (l.take j) + l[j].cnt := by
  have hs : ∀ (a b : List Rw), Rw.cnts (a ++ b) = Rw.cnts a + Rw.cnts b := by
    intro a b
    induction a with
    | nil => simp [Rw.cnts]
    | cons d a ih => simp only [List.cons_append, Rw.cnts, ih]; omega
  rw [List.take_succ_eq_append_getElem h, hs]
  simp [Rw.cnts]
mutual
/-- How many stand in each other. -/
def Rw.dp : Rw → Nat
  | .mk _ _ l => 1 + Rw.dps l
def Rw.dps : List Rw → Nat
  | [] => 0
  | r :: l => max r.dp (Rw.dps l)
end
theorem dps_take (l : List Rw) (j : Nat) (h : j < l.length) : Rw.dps (l.take (j + 1)) = max (Rw.dps (l.take j)) l[j].dp := by
  have hs : ∀ (a b : List Rw), Rw.dps (a ++ b) = max (Rw.dps a) (Rw.dps b) := by
    intro a b
    induction a with
    | nil => simp [Rw.dps]
    | cons d a ih => simp only [List.cons_append, Rw.dps, ih]; omega
  rw [List.take_succ_eq_append_getElem h, hs]
  simp [Rw.dps]
/-- A count: what it is where it is small. -/
def RetSz (l : List Rw) (deep : Nat) (w : World) (e : Ending) (w' : World) : Prop :=
  ∃ r : Nat, e = .returned (.int .i64 r) ∧ r ≤ 1000 + 61 * (21 - deep) ∧ (r ≤ 60 → Rw.cnts l = r ∧ Rw.dps l + deep ≤ 21) ∧ w = w'
def ZInv (l : List Rw) (deep : Nat) (nv iv : Value) : Prop :=
  ∃ j m : Nat, j ≤ l.length ∧ iv = .int .i64 j ∧ nv = .int .i64 m ∧ m ≤ 1000 + 61 * (21 - deep) ∧ (m ≤ 60 → Rw.cnts (l.take j) = m ∧ Rw.dps (l.take j) + deep ≤ 21)

set_option maxHeartbeats 2000000 in
theorem rsize (N : Nat) : ∀ (l : List Rw), Rw.cnts l ≤ N → ∀ (deep : Nat), deep ≤ 21 → ∀ (ao : Option Addr) (cap : Nat) (w : World), RsAt w ao l →
    Calls Tryd.prog 37 #[.slice ao l.length cap, .int .i64 (deep : Int)] w (RetSz l deep w) := by
  have base : ∀ (l : List Rw) (ao : Option Addr) (cap : Nat) (w : World), Calls Tryd.prog 37 #[.slice ao l.length cap, .int .i64 ((21 : Nat) : Int)] w (RetSz l 21 w) := by
    intro l ao cap w
    go_enter Tryd.func37, Tryd.ntmps37
    go_wp2
    go_ret
    exact ⟨1000, rfl, by omega, by omega, rfl⟩
  induction N with
  | zero =>
    intro l hl deep hd ao cap w hR
    have hln := length_cnts l
    have h0 : l.length = 0 := by omega
    by_cases h21 : deep = 21
    · subst h21; exact base l ao cap w
    · have q0 : decide ((20 : Int) < (deep : Int)) = false := decide_eq_false (by omega)
      have HC : Hid (Rw.cnts l = 0 ∧ Rw.dps l + deep ≤ 21) := ⟨by omega, by rw [List.length_eq_zero_iff.1 h0]; simp [Rw.dps]; omega⟩
      rw [h0]
      clear base hR hln h0 hl
      go_enter Tryd.func37, Tryd.ntmps37
      go_wp2_with fail
      go_loop [5, 6] (fun nv iv => nv = .int .i64 0 ∧ iv = .int .i64 0) (fun _ _ => 0)
      case atStart => exact ⟨rfl, rfl⟩
      case round =>
        obtain ⟨rfl, rfl⟩ := hrel
        go_wp2_with fail
        go_ret
        exact ⟨0, rfl, by omega, fun _ => HC.out, rfl⟩
  | succ N ih =>
    intro l hl deep hd ao cap w hR
    have hlm := hR.1
    by_cases h21 : deep = 21
    · subst h21; exact base l ao cap w
    · have q0 : decide ((20 : Int) < (deep : Int)) = false := decide_eq_false (by omega)
      have IH := Lib.hid ih
      have HR := Lib.hid hR
      unfold maxLen at hlm
      clear base ih hR
      go_enter Tryd.func37, Tryd.ntmps37
      go_wp2_with fail
      go_loop [5, 6] (fun nv iv => ZInv l deep nv iv) (fun _ iv => l.length - (intOf iv).toNat)
      case atStart => exact ⟨0, 0, Nat.zero_le _, rfl, rfl, by omega, fun _ => ⟨by simp [Rw.cnts], by simp [Rw.dps]; omega⟩⟩
      case round =>
        obtain ⟨j, m, hj, rfl, rfl, hm1, hm2⟩ := hrel
        have HM := Lib.hid hm2
        clear hm2
        by_cases hlt : j < l.length
        · have q1 : decide ((j : Int) < (l.length : Int)) = true := decide_eq_true (by omega)
          by_cases h60 : m ≤ 60
          · have q2 : decide ((m : Int) ≤ 60) = true := decide_eq_true (by omega)
            obtain ⟨b, k, n, po, pl, pc, rfl, hlj, c0, c1, c2, i1, i2, hpl⟩ := HR.out.get j hlt
            have HP := Lib.hid hpl
            have hcj := cnts_get l j hlt
            have hct := cnts_take l j hlt
            have hdt := dps_take l j hlt
            rw [hlj] at hcj hct hdt
            simp only [Rw.cnt, Rw.dp] at hcj hct hdt
            have HT := Lib.hid hct
            have HDT := Lib.hid hdt
            clear hpl hlj hct hdt c0 c1
            go_wp2_with fail
            refine (IH.out pl (by omega) (deep + 1) (by omega) po pc w HP.out).mono ?_
            rintro e w' ⟨r, rfl, hr1, hr2, rfl⟩
            have HN := Lib.hid (show m + 1 + r ≤ 60 → Rw.cnts (l.take (j + 1)) = m + 1 + r ∧ Rw.dps (l.take (j + 1)) + deep ≤ 21 by
              intro h
              have h1 := HM.out (by omega)
              have h2 := hr2 (by omega)
              refine ⟨by rw [HT.out, h1.1, h2.1]; omega, ?_⟩
              rw [HDT.out]; omega)
            have hb : m + 1 + r ≤ 1000 + 61 * (21 - deep) := by omega
            have hsm : m + 1 + r ≤ 100000 := by omega
            clear hr1 hr2
            go_wp2_with fail
            go_round
            case rel => exact ⟨j + 1, m + 1 + r, by omega, by go_num, by go_num, hb, HN.out⟩
            case measure => simp [intOf]; omega
          · have q2 : decide ((m : Int) ≤ 60) = false := decide_eq_false (by omega)
            go_wp2_with fail
            go_ret
            exact ⟨m, rfl, hm1, fun h => absurd h (by omega), rfl⟩
        · obtain rfl : j = l.length := by omega
          have HE : Hid (m ≤ 60 → Rw.cnts l = m ∧ Rw.dps l + deep ≤ 21) := by
            have h := HM.out
            have e : l.take l.length = l := List.take_length
            rw [e] at h; exact h
          clear hlt
          go_wp2_with fail
          go_ret
          exact ⟨m, rfl, hm1, HE.out, rfl⟩

/-- Whether they are few. -/
def RetFew (l : List Rw) (w : World) (e : Ending) (w' : World) : Prop := ∃ r : Bool, e = .returned (.bool r) ∧ (r = true → Rw.cnts l ≤ 60 ∧ Rw.dps l ≤ 21) ∧ w = w'
theorem few_any (l : List Rw) (ao : Option Addr) (cap : Nat) (w : World) (hR : RsAt w ao l) : Calls Tryd.prog 19 #[.slice ao l.length cap] w (RetFew l w) := by
  have HR := Lib.hid (rsize _ l (Nat.le_refl _) 0 (by decide) ao cap w hR)
  clear hR
  go_enter Tryd.func19, Tryd.ntmps19
  go_wp2_with fail
  refine HR.out.mono ?_
  rintro e w' ⟨r, rfl, hr1, hr2, rfl⟩
  have HN := Lib.hid hr2
  clear hr1 hr2
  by_cases h60 : r ≤ 60
  · have q : decide ((r : Int) ≤ 60) = true := decide_eq_true (by omega)
    go_wp2
    go_ret
    exact ⟨true, rfl, fun _ => by have := HN.out h60; omega, rfl⟩
  · have q : decide ((r : Int) ≤ 60) = false := decide_eq_false (by omega)
    go_wp2
    go_ret
    exact ⟨false, rfl, (fun h => by cases h), rfl⟩
end Go.Proofs.YtahdiknkcgnieaaDoor
namespace Go.Proofs.YtahdiknkcgnieaaDoor
open Go.RowKit
set_option linter.unusedVariables false

/-- The texts of numbers, of #t and #f, of symbols. -/
def tblI : List ByteArray := [⟨#[48]⟩, ⟨#[49]⟩, ⟨#[45, 55]⟩, ⟨#[52, 50]⟩, ⟨#[49, 50, 51, 52, 53, 54, 55, 56, 57, 48, 49, 50, 51, 52, 53, 54, 55, 56, 57, 48, 49, 50, 51, 52, 53, 54, 55, 56, 57, 48]⟩]
def tblB : List ByteArray := [⟨#[35, 116]⟩, ⟨#[35, 102]⟩]
def tblS : List ByteArray := [⟨#[97]⟩, ⟨#[98]⟩, ⟨#[120]⟩, ⟨#[102]⟩, ⟨#[43]⟩, ⟨#[99, 97, 114]⟩, ⟨#[46, 46, 46]⟩, ⟨#[95]⟩, ⟨#[108, 101, 116]⟩, ⟨#[113, 117, 111, 116, 101]⟩, ⟨#[97, 45, 62, 98]⟩]
mutual
/-- The datum that a raw one makes. -/
def Rw.make : Rw → Dt
  | .mk k n l =>
    if k % 7 = 0 then .mk 1 (tblI.getD (n % 5).toNat ⟨#[]⟩) [] [] 0
    else if k % 7 = 1 then .mk 2 (tblB.getD (n % 2).toNat ⟨#[]⟩) [] [] 0
    else if k % 7 = 2 ∨ k % 7 = 3 then .mk 3 (tblS.getD (n % 11).toNat ⟨#[]⟩) [] [] 0
    else .mk 4 ⟨#[]⟩ [] (Rw.makes l) 0
def Rw.makes : List Rw → List Dt
  | [] => []
  | r :: l => r.make :: Rw.makes l
end
theorem makes_length : ∀ (l : List Rw), (Rw.makes l).length = l.length
  | [] => by simp [Rw.makes]
  | r :: l => by simp [Rw.makes, makes_length l]
theorem makes_append : ∀ (l m : List Rw), Rw.makes (l ++ m) = Rw.makes l ++ Rw.makes m
  | [], m => by simp [Rw.makes]
  | r :: l, m => by simp [Rw.makes, makes_append l m]
theorem makes_take (l : List Rw) (j : Nat) (h : j < l.length) : Rw.makes (l.take (j + 1)) = Rw.makes (l.take j) ++ [l[j].make] := by
  rw [List.take_succ_eq_append_getElem h, makes_append]
  simp [Rw.makes]

end Go.Proofs.YtahdiknkcgnieaaDoor
namespace Go.Proofs.YtahdiknkcgnieaaDoor
open Go.RowKit
set_option linter.unusedVariables false
set_option linter.unusedSimpArgs false

/-- It returns a new datum. -/
def RetMk (d : Dt) (w : World) (e : Ending) (w' : World) : Prop := ∃ cs, e = .returned (.agg cs) ∧ Dt.At (fun g => w.heap.size ≤ g) w' d cs ∧ Below w.heap.size w w'
theorem within_is (a : Int) (n : Nat) (q : Int) (ha : I64 a) (h1 : 1 ≤ n) (h2 : n ≤ 1000) (hq : a % n = q) (w : World) : Calls Tryd.prog 53 #[.int .i64 a, .int .i64 n] w fun e w' => e = .returned (.int .i64 q) ∧ w = w' := by
  subst hq
  exact within2_any a n w ha.1 ha.2 (by omega) (by omega)
theorem below_setRow {b : Nat} {a w : World} (h : Below b a w) (g : Nat) (cs : Array Value) (hg : b ≤ g) : Below b a (w.setRow g cs) :=
  h.trans ⟨rfl, rfl, rfl, by simp, fun k hk => setRow_other w g k cs (by omega)⟩
theorem leaf_new (S : Nat → Prop) (w : World) (k : Int) (t : ByteArray) : Dt.At S w (.mk k t [] [] 0) #[.int .i64 k, .string t, .slice none 0 0, .slice none 0 0, .int .i64 0] := by
  rw [At_mk]; exact ⟨_, _, rfl, .inl ⟨rfl, rfl⟩, .inl ⟨rfl, rfl⟩⟩
/-- The texts as cells. -/
def tcells (l : List ByteArray) : Array Value := (l.map Value.string).toArray
theorem tcells_get (w : World) (g : Nat) (l : List ByteArray) (hg : w.heap[g]? = some (.cells (tcells l) 9 (0, 0))) (i : Nat) (hi : i < l.length) : w.cell? ⟨g, i, none⟩ = some (.string (l.getD i ⟨#[]⟩)) := by
  rw [Lib.cell_of_heap hg]
  unfold tcells
  rw [List.getElem?_toArray, List.getElem?_map, List.getElem?_eq_getElem hi, List.getD_eq_getElem?_getD, List.getElem?_eq_getElem hi]; rfl

/-- The world in which a leaf is made: the raw datum's box, the new datum, the row of texts. -/
def LW (w : World) (raw : Array Value) (l : List ByteArray) : World := ((w.alloc (.cells raw 74)).alloc (.cells Z5 40)).alloc (.cells (tcells l) 9)
theorem LW_new (w : World) (raw : Array Value) (l : List ByteArray) : (LW w raw l).heap[w.heap.size + 1]? = some (.cells Z5 40) := by
  have h := alloc_at (w.alloc (.cells raw 74)) (.cells Z5 40)
  have e : (w.alloc (.cells raw 74)).heap.size = w.heap.size + 1 := by simp
  rw [e] at h
  exact (Lib.alloc_old ((w.alloc (.cells raw 74)).alloc (.cells Z5 40)) (.cells (tcells l) 9) (w.heap.size + 1) (by simp)).trans h
theorem LW_texts (w : World) (raw : Array Value) (l : List ByteArray) : (LW w raw l).heap[w.heap.size + 1 + 1]? = some (.cells (tcells l) 9 (0, 0)) := by
  have h := alloc_at ((w.alloc (.cells raw 74)).alloc (.cells Z5 40)) (.cells (tcells l) 9)
  have e : ((w.alloc (.cells raw 74)).alloc (.cells Z5 40)).heap.size = w.heap.size + 1 + 1 := by simp
  rw [e] at h
  exact h
theorem LW_below (w : World) (raw : Array Value) (l : List ByteArray) : Below w.heap.size w (LW w raw l) :=
  (((Below.refl w.heap.size w).alloc (Nat.le_refl _) (.cells raw 74)).alloc (by simp) (.cells Z5 40)).alloc (by simp; omega) (.cells (tcells l) 9)

set_option maxHeartbeats 4000000 in
theorem make_int (k n : Int) (po : Option Addr) (pl : List Rw) (pc : Nat) (w : World) (hk : I64 k) (hn : I64 n) (h7 : k % 7 = 0) :
    Calls Tryd.prog 38 #[.agg #[.int .i64 k, .int .i64 n, .slice po pl.length pc]] w (RetMk (.mk 1 (tblI.getD (n % 5).toNat ⟨#[]⟩) [] [] 0) w) := by
  have F1 := Lib.hid (fun w => within_is k 7 0 hk (by decide) (by decide) h7 w)
  obtain ⟨s, hs⟩ : ∃ s : Nat, n % 5 = (s : Int) := ⟨(n % 5).toNat, by omega⟩
  have hs5 : s < 5 := by omega
  have F2 := Lib.hid (fun w => within_is n 5 s hn (by decide) (by decide) hs w)
  have e : (n % 5).toNat = s := by omega
  rw [e]
  have R1 := Lib.hid (LW_new w #[.int .i64 k, .int .i64 n, .slice po pl.length pc] tblI)
  have hC := tcells_get _ _ tblI (LW_texts w #[.int .i64 k, .int .i64 n, .slice po pl.length pc] tblI) s hs5
  generalize tblI.getD s ⟨#[]⟩ = tx at hC ⊢
  have HB := Lib.hid (LW_below w #[.int .i64 k, .int .i64 n, .slice po pl.length pc] tblI)
  have HP := Lib.hid (fun t => leaf_new (fun g => w.heap.size ≤ g) t)
  clear hk hn h7 hs e
  go_enter Tryd.func38, Tryd.ntmps38
  go_wp2_with fail
  refine (F1.out _).mono ?_
  rintro e w1 ⟨rfl, rfl⟩
  go_wp2_with fail
  refine Calls.mono (w := LW w #[.int .i64 k, .int .i64 n, .slice po pl.length pc] tblI) (F2.out _) ?_
  generalize LW w #[.int .i64 k, .int .i64 n, .slice po pl.length pc] tblI = W at R1 hC HB
  rintro e w1 ⟨rfl, rfl⟩
  go_wp2_with (refine wpList_store_row rfl 40 _ _ rfl (w.heap.size + 1) #[.int .i64 1, .string tx, .slice none 0 0, .slice none 0 0, .int .i64 0] rfl rfl 40 Z5 R1.out info40 rfl (by simp [Value.oneCell']) ?_)
  refine bodyPost_ret (results_cell_row rfl _ _ (w.heap.size + 1) 40 #[.int .i64 1, .string tx, .slice none 0 0, .slice none 0 0, .int .i64 0] (0, 0) _ rfl (setRow_heap W _ _ _ 40 _ R1.out) Tryd.underlying40 rfl info40) rfl ?_
  exact ⟨_, rfl, HP.out _ _ _, below_setRow HB.out _ _ (by omega)⟩

set_option maxHeartbeats 4000000 in
theorem make_bool (k n : Int) (po : Option Addr) (pl : List Rw) (pc : Nat) (w : World) (hk : I64 k) (hn : I64 n) (h7 : k % 7 = 1) :
    Calls Tryd.prog 38 #[.agg #[.int .i64 k, .int .i64 n, .slice po pl.length pc]] w (RetMk (.mk 2 (tblB.getD (n % 2).toNat ⟨#[]⟩) [] [] 0) w) := by
  have F1 := Lib.hid (fun w => within_is k 7 1 hk (by decide) (by decide) h7 w)
  obtain ⟨s, hs⟩ : ∃ s : Nat, n % 2 = (s : Int) := ⟨(n % 2).toNat, by omega⟩
  have hs5 : s < 2 := by omega
  have F2 := Lib.hid (fun w => within_is n 2 s hn (by decide) (by decide) hs w)
  have e : (n % 2).toNat = s := by omega
  rw [e]
  have R1 := Lib.hid (LW_new w #[.int .i64 k, .int .i64 n, .slice po pl.length pc] tblB)
  have hC := tcells_get _ _ tblB (LW_texts w #[.int .i64 k, .int .i64 n, .slice po pl.length pc] tblB) s hs5
  generalize tblB.getD s ⟨#[]⟩ = tx at hC ⊢
  have HB := Lib.hid (LW_below w #[.int .i64 k, .int .i64 n, .slice po pl.length pc] tblB)
  have HP := Lib.hid (fun t => leaf_new (fun g => w.heap.size ≤ g) t)
  clear hk hn h7 hs e
  go_enter Tryd.func38, Tryd.ntmps38
  go_wp2_with fail
  refine (F1.out _).mono ?_
  rintro e w1 ⟨rfl, rfl⟩
  go_wp2_with fail
  refine Calls.mono (w := LW w #[.int .i64 k, .int .i64 n, .slice po pl.length pc] tblB) (F2.out _) ?_
  generalize LW w #[.int .i64 k, .int .i64 n, .slice po pl.length pc] tblB = W at R1 hC HB
  rintro e w1 ⟨rfl, rfl⟩
  go_wp2_with (refine wpList_store_row rfl 40 _ _ rfl (w.heap.size + 1) #[.int .i64 2, .string tx, .slice none 0 0, .slice none 0 0, .int .i64 0] rfl rfl 40 Z5 R1.out info40 rfl (by simp [Value.oneCell']) ?_)
  refine bodyPost_ret (results_cell_row rfl _ _ (w.heap.size + 1) 40 #[.int .i64 2, .string tx, .slice none 0 0, .slice none 0 0, .int .i64 0] (0, 0) _ rfl (setRow_heap W _ _ _ 40 _ R1.out) Tryd.underlying40 rfl info40) rfl ?_
  exact ⟨_, rfl, HP.out _ _ _, below_setRow HB.out _ _ (by omega)⟩

set_option maxHeartbeats 4000000 in
theorem make_sym2 (k n : Int) (po : Option Addr) (pl : List Rw) (pc : Nat) (w : World) (hk : I64 k) (hn : I64 n) (h7 : k % 7 = 2) :
    Calls Tryd.prog 38 #[.agg #[.int .i64 k, .int .i64 n, .slice po pl.length pc]] w (RetMk (.mk 3 (tblS.getD (n % 11).toNat ⟨#[]⟩) [] [] 0) w) := by
  have F1 := Lib.hid (fun w => within_is k 7 2 hk (by decide) (by decide) h7 w)
  obtain ⟨s, hs⟩ : ∃ s : Nat, n % 11 = (s : Int) := ⟨(n % 11).toNat, by omega⟩
  have hs5 : s < 11 := by omega
  have F2 := Lib.hid (fun w => within_is n 11 s hn (by decide) (by decide) hs w)
  have e : (n % 11).toNat = s := by omega
  rw [e]
  have R1 := Lib.hid (LW_new w #[.int .i64 k, .int .i64 n, .slice po pl.length pc] tblS)
  have hC := tcells_get _ _ tblS (LW_texts w #[.int .i64 k, .int .i64 n, .slice po pl.length pc] tblS) s hs5
  generalize tblS.getD s ⟨#[]⟩ = tx at hC ⊢
  have HB := Lib.hid (LW_below w #[.int .i64 k, .int .i64 n, .slice po pl.length pc] tblS)
  have HP := Lib.hid (fun t => leaf_new (fun g => w.heap.size ≤ g) t)
  clear hk hn h7 hs e
  go_enter Tryd.func38, Tryd.ntmps38
  go_wp2_with fail
  refine (F1.out _).mono ?_
  rintro e w1 ⟨rfl, rfl⟩
  go_wp2_with fail
  refine Calls.mono (w := LW w #[.int .i64 k, .int .i64 n, .slice po pl.length pc] tblS) (F2.out _) ?_
  generalize LW w #[.int .i64 k, .int .i64 n, .slice po pl.length pc] tblS = W at R1 hC HB
  rintro e w1 ⟨rfl, rfl⟩
  go_wp2_with (refine wpList_store_row rfl 40 _ _ rfl (w.heap.size + 1) #[.int .i64 3, .string tx, .slice none 0 0, .slice none 0 0, .int .i64 0] rfl rfl 40 Z5 R1.out info40 rfl (by simp [Value.oneCell']) ?_)
  refine bodyPost_ret (results_cell_row rfl _ _ (w.heap.size + 1) 40 #[.int .i64 3, .string tx, .slice none 0 0, .slice none 0 0, .int .i64 0] (0, 0) _ rfl (setRow_heap W _ _ _ 40 _ R1.out) Tryd.underlying40 rfl info40) rfl ?_
  exact ⟨_, rfl, HP.out _ _ _, below_setRow HB.out _ _ (by omega)⟩

set_option maxHeartbeats 4000000 in
theorem make_sym3 (k n : Int) (po : Option Addr) (pl : List Rw) (pc : Nat) (w : World) (hk : I64 k) (hn : I64 n) (h7 : k % 7 = 3) :
    Calls Tryd.prog 38 #[.agg #[.int .i64 k, .int .i64 n, .slice po pl.length pc]] w (RetMk (.mk 3 (tblS.getD (n % 11).toNat ⟨#[]⟩) [] [] 0) w) := by
  have F1 := Lib.hid (fun w => within_is k 7 3 hk (by decide) (by decide) h7 w)
  obtain ⟨s, hs⟩ : ∃ s : Nat, n % 11 = (s : Int) := ⟨(n % 11).toNat, by omega⟩
  have hs5 : s < 11 := by omega
  have F2 := Lib.hid (fun w => within_is n 11 s hn (by decide) (by decide) hs w)
  have e : (n % 11).toNat = s := by omega
  rw [e]
  have R1 := Lib.hid (LW_new w #[.int .i64 k, .int .i64 n, .slice po pl.length pc] tblS)
  have hC := tcells_get _ _ tblS (LW_texts w #[.int .i64 k, .int .i64 n, .slice po pl.length pc] tblS) s hs5
  generalize tblS.getD s ⟨#[]⟩ = tx at hC ⊢
  have HB := Lib.hid (LW_below w #[.int .i64 k, .int .i64 n, .slice po pl.length pc] tblS)
  have HP := Lib.hid (fun t => leaf_new (fun g => w.heap.size ≤ g) t)
  clear hk hn h7 hs e
  go_enter Tryd.func38, Tryd.ntmps38
  go_wp2_with fail
  refine (F1.out _).mono ?_
  rintro e w1 ⟨rfl, rfl⟩
  go_wp2_with fail
  refine Calls.mono (w := LW w #[.int .i64 k, .int .i64 n, .slice po pl.length pc] tblS) (F2.out _) ?_
  generalize LW w #[.int .i64 k, .int .i64 n, .slice po pl.length pc] tblS = W at R1 hC HB
  rintro e w1 ⟨rfl, rfl⟩
  go_wp2_with (refine wpList_store_row rfl 40 _ _ rfl (w.heap.size + 1) #[.int .i64 3, .string tx, .slice none 0 0, .slice none 0 0, .int .i64 0] rfl rfl 40 Z5 R1.out info40 rfl (by simp [Value.oneCell']) ?_)
  refine bodyPost_ret (results_cell_row rfl _ _ (w.heap.size + 1) 40 #[.int .i64 3, .string tx, .slice none 0 0, .slice none 0 0, .int .i64 0] (0, 0) _ rfl (setRow_heap W _ _ _ 40 _ R1.out) Tryd.underlying40 rfl info40) rfl ?_
  exact ⟨_, rfl, HP.out _ _ _, below_setRow HB.out _ _ (by omega)⟩

end Go.Proofs.YtahdiknkcgnieaaDoor
namespace Go.Proofs.YtahdiknkcgnieaaDoor
open Go.RowKit
set_option linter.unusedVariables false
set_option linter.unusedSimpArgs false

theorem makes_list (k n : Int) (pl : List Rw) (q : Int) (h7 : k % 7 = q) (hq : q = 4 ∨ q = 5 ∨ q = 6) : Rw.make (.mk k n pl) = .mk 4 ⟨#[]⟩ [] (Rw.makes pl) 0 := by
  rw [Rw.make, if_neg (by omega), if_neg (by omega), if_neg (by omega)]

/-- The loop of Make, and of All: so many are made, and are held by a row of the call's own. -/
def MInv (l : List Rw) (w : World) (raw : Array Value) (iv : Value) (wr : World) : Prop :=
  ∃ (j : Nat) (v : Value), j ≤ l.length ∧ iv = .int .i64 j ∧ wr.heap[w.heap.size + 1 + 1]? = some (.cells #[.int .i64 4, .string ⟨#[]⟩, .slice none 0 0, v, .int .i64 0] 40 (0, 0)) ∧ OwnD (w.heap.size + 1 + 1 + 1) wr v (Rw.makes (l.take j)) ∧
    wr.heap[w.heap.size + 1]? = some (.cells Z5 40 (0, 0)) ∧ wr.heap[w.heap.size]? = some (.cells raw 74 (0, 0)) ∧ Below w.heap.size w wr ∧ w.heap.size + 1 + 1 < wr.heap.size
theorem RsAt.form {w : World} {ao : Option Addr} {l : List Rw} (H : RsAt w ao l) : True := trivial
/-- The world in which the list is made. -/
def MW (w : World) (raw : Array Value) : World := ((w.alloc (.cells raw 74)).alloc (.cells Z5 40)).alloc (.cells #[.int .i64 4, .string ⟨#[]⟩, .slice none 0 0, .slice none 0 0, .int .i64 0] 40)
theorem MW_inv (l : List Rw) (w : World) (raw : Array Value) : MInv l w raw (.int .i64 0) (MW w raw) := by
  have e1 : (w.alloc (.cells raw 74)).heap.size = w.heap.size + 1 := by simp
  have e2 : ((w.alloc (.cells raw 74)).alloc (.cells Z5 40)).heap.size = w.heap.size + 1 + 1 := by simp
  refine ⟨0, .slice none 0 0, Nat.zero_le _, rfl, ?_, ?_, ?_, ?_, ?_, ?_⟩
  · have h := alloc_at ((w.alloc (.cells raw 74)).alloc (.cells Z5 40)) (.cells #[.int .i64 4, .string ⟨#[]⟩, .slice none 0 0, .slice none 0 0, .int .i64 0] 40)
    rw [e2] at h; exact h
  · exact OwnD.nil _ _
  · have h := alloc_at (w.alloc (.cells raw 74)) (.cells Z5 40)
    rw [e1] at h
    exact (Lib.alloc_old _ _ _ (by simp)).trans h
  · exact (Lib.alloc_old _ _ _ (by simp; omega)).trans ((Lib.alloc_old _ _ _ (by simp)).trans (alloc_at w (.cells raw 74)))
  · exact (((Below.refl w.heap.size w).alloc (Nat.le_refl _) (.cells raw 74)).alloc (by simp) (.cells Z5 40)).alloc (by simp; omega) _
  · simp [MW]
theorem RsAt.block {w : World} {b : Addr} {l : List Rw} (H : RsAt w (some b) l) {j : Nat} (h : j < l.length) : b.block < w.heap.size := by
  obtain ⟨b', k, n, po, pl, pc, e, _, c0, _⟩ := H.get j h
  injection e with e
  subst e
  have := World.block_lt_of_cell? w _ c0
  have e0 : (b.add (j * 3)).block = b.block := by unfold Addr.add; split <;> rfl
  rw [e0] at this; exact this
theorem ih_at (N : Nat) (IH : Hid (∀ (k n : Int) (pl : List Rw), 1 + Rw.cnts pl ≤ N → I64 k → I64 n → ∀ (po : Option Addr) (pc : Nat) (w : World), RsAt w po pl →
      Calls Tryd.prog 38 #[.agg #[.int .i64 k, .int .i64 n, .slice po pl.length pc]] w (RetMk (Rw.make (.mk k n pl)) w))) {m : Nat} (hm : m ≤ N) {k n : Int} {pl : List Rw} (h : 1 + Rw.cnts pl ≤ m) (hk : I64 k) (hn : I64 n) {w : World} {po : Option Addr} {pc : Nat} (hR : RsAt w po pl) :
    Calls Tryd.prog 38 #[.agg #[.int .i64 k, .int .i64 n, .slice po pl.length pc]] w (RetMk (Rw.make (.mk k n pl)) w) := IH.out k n pl (by omega) hk hn po pc w hR
/-- A round of Make's loop. -/
theorem made_more {l : List Rw} {w : World} {raw : Array Value} {j : Nat} {v : Value} {wr : World} (hlt : j < l.length) (hl : l.length ≤ 1000000)
    (hgd : wr.heap[w.heap.size + 1 + 1]? = some (.cells #[.int .i64 4, .string ⟨#[]⟩, .slice none 0 0, v, .int .i64 0] 40 (0, 0))) (hown : OwnD (w.heap.size + 1 + 1 + 1) wr v (Rw.makes (l.take j)))
    (hgz : wr.heap[w.heap.size + 1]? = some (.cells Z5 40 (0, 0))) (hgr : wr.heap[w.heap.size]? = some (.cells raw 74 (0, 0))) (hbel : Below w.heap.size w wr) (hbs : w.heap.size + 1 + 1 < wr.heap.size)
    {d : Dt} (hd : l[j].make = d) {cs : Array Value} {w7 : World} (hat : Dt.At (fun g => wr.drew.heap.size ≤ g) w7 d cs) (hb : Below wr.drew.heap.size wr.drew w7) (h5 : cs.size = 5) :
    ∃ xs, (w7.alloc (.cells cs 40)).ownsRow (w.heap.size + 1 + 1 + 1) 40 5 v j xs ∧ w.heap.size + 1 + 1 + 1 ≤ (w7.alloc (.cells cs 40)).heap.size ∧ ∀ v' w9, w9.ownsRow (w.heap.size + 1 + 1 + 1) 40 5 v' (j + 1) (xs ++ cs.toList) → (w7.alloc (.cells cs 40)).grownBy w9 v.ownBlock →
      (v'.ownBlock = v.ownBlock ∨ v'.ownBlock = some (w7.alloc (.cells cs 40)).heap.size) →
      Below (w.heap.size + 1 + 1) wr w9 ∧ w9.heap[w.heap.size + 1 + 1]? = some (.cells #[.int .i64 4, .string ⟨#[]⟩, .slice none 0 0, v, .int .i64 0] 40 (0, 0)) ∧ Below (w.heap.size + 1 + 1) wr (w9.setCell ⟨w.heap.size + 1 + 1, 3, none⟩ v') ∧
        MInv l w raw (.int .i64 ((j : Int) + 1)) (w9.setCell ⟨w.heap.size + 1 + 1, 3, none⟩ v') := by
  have hb' : Below wr.heap.size wr w7 := (Below.refl wr.heap.size wr).drew.trans hb
  have hs7 := hb'.size
  have hb8 : Below wr.heap.size wr (w7.alloc (.cells cs 40)) := hb'.alloc hb'.size _
  obtain ⟨xs, hown8, hx8⟩ := OwnD.below hown hb8
  have hlen : (Rw.makes (l.take j)).length = j := by rw [makes_length, List.length_take]; omega
  rw [hlen] at hown8
  have hvl : ∀ k, v.ownBlock = some k → w.heap.size + 1 + 1 + 1 ≤ k ∧ k < wr.heap.size := by
    obtain ⟨ys, ho, _⟩ := hown
    exact ho.lt
  have hz8 : (w7.alloc (.cells cs 40)).heap.size = w7.heap.size + 1 := by simp
  refine ⟨xs, hown8, by rw [hz8]; omega, fun v' w9 hown9 hg9 hv9 => ?_⟩
  have hB9 : Below (w.heap.size + 1 + 1 + 1) wr w9 := (hb8.mono (by omega)).grown hg9 (by rw [hz8]; omega) (fun k hk => (hvl k hk).1)
  have g9 : w9.heap[w.heap.size + 1 + 1]? = some (.cells #[.int .i64 4, .string ⟨#[]⟩, .slice none 0 0, v, .int .i64 0] 40 (0, 0)) := by rw [hB9.block _ (by omega)]; exact hgd
  have hB10 : Below (w.heap.size + 1 + 1) wr (w9.setCell ⟨w.heap.size + 1 + 1, 3, none⟩ v') := (hB9.mono (Nat.le_succ _)).setCell (p := ⟨w.heap.size + 1 + 1, 3, none⟩) (Nat.le_refl _) v'
  refine ⟨hB9.mono (by omega), g9, hB10, j + 1, v', by omega, by congr 1, ?_, ?_, ?_, ?_, ?_, ?_⟩
  · exact heap_setCell_same w9 _ 3 _ 40 v' g9
  · refine OwnD.setCell ?_ (by show w.heap.size + 1 + 1 < _; omega) _
    rw [makes_take l j hlt, hd]
    have hlx : xs.length = j * 5 := hown8.1
    refine OwnD.snoc hx8 (by rw [hlen]; exact hlx) h5 ?_ (by rw [hlen]; exact hown9) hg9 hv9
    have h1 := Dt.At.bound d cs hat
    have h2 := Dt.At.keeps (Keeps.of_below ((Below.refl w7.heap.size w7).alloc (Nat.le_refl _) (.cells cs 40))) d cs h1
    refine Dt.At.mono (fun g hg => ⟨?_, ?_⟩) d cs h2
    · have : wr.heap.size ≤ g := hg.1; omega
    · intro e
      have := (hvl g e).2
      have : wr.heap.size ≤ g := hg.1
      omega
  · rw [hB10.block _ (by omega)]; exact hgz
  · rw [hB10.block _ (by omega)]; exact hgr
  · exact hbel.trans (hB10.mono (by omega))
  · have := hB10.size; omega
theorem list_new {w wr : World} {v : Value} {ds : List Dt} {cs : Array Value} (h : OwnD (w.heap.size + 1 + 1 + 1) wr v ds) (hgz : wr.heap[w.heap.size + 1]? = some (.cells Z5 40 (0, 0))) :
    Dt.At (fun g => w.heap.size ≤ g) (wr.setRow (w.heap.size + 1) cs) (.mk 4 ⟨#[]⟩ [] ds 0) #[.int .i64 4, .string ⟨#[]⟩, .slice none 0 0, v, .int .i64 0] := by
  rw [At_mk]
  refine ⟨_, _, rfl, .inl ⟨rfl, rfl⟩, ?_⟩
  refine LAt.mono (LAt.keeps h.at ?_) (fun g (hg : w.heap.size + 1 + 1 + 1 ≤ g) => by omega)
  intro g c T fz hs hg _
  exact ⟨fz, by rw [setRow_other wr _ g _ (by have : w.heap.size + 1 + 1 + 1 ≤ g := hs; omega)]; exact hg⟩
def RetMk1 (l : List Rw) (w : World) := RetMk (.mk 4 ⟨#[]⟩ [] (Rw.makes l) 0) w

set_option maxHeartbeats 4000000 in
theorem make_list (N : Nat) (hN : N ≤ 1000000) (ih : ∀ (k n : Int) (pl : List Rw), 1 + Rw.cnts pl ≤ N → I64 k → I64 n → ∀ (po : Option Addr) (pc : Nat) (w : World), RsAt w po pl →
      Calls Tryd.prog 38 #[.agg #[.int .i64 k, .int .i64 n, .slice po pl.length pc]] w (RetMk (Rw.make (.mk k n pl)) w))
    (k n : Int) (l : List Rw) (q : Int) (hk : I64 k) (h7 : k % 7 = q) (hq : q = 4 ∨ q = 5 ∨ q = 6) (hl : Rw.cnts l ≤ N) (ao : Option Addr) (ac : Nat) (w : World) (hR : RsAt w ao l) :
    Calls Tryd.prog 38 #[.agg #[.int .i64 k, .int .i64 n, .slice ao l.length ac]] w (RetMk1 l w) := by
  have F1 := Lib.hid (fun w => within_is k 7 q hk (by decide) (by decide) h7 w)
  have z0 : (q == 0) = false := by rw [beq_eq_false_iff_ne]; omega
  have z1 : (q == 1) = false := by rw [beq_eq_false_iff_ne]; omega
  have z2 : (q == 2) = false := by rw [beq_eq_false_iff_ne]; omega
  have z3 : (q == 3) = false := by rw [beq_eq_false_iff_ne]; omega
  have hll := length_cnts l
  have hl1 : l.length ≤ 1000000 := by omega
  have IH := Lib.hid ih
  have HR := Lib.hid hR
  have HC := Lib.hid hl
  clear hk h7 hq ih hR hl hll
  go_enter Tryd.func38, Tryd.ntmps38
  go_wp2_with fail
  refine (F1.out _).mono ?_
  rintro e w1 ⟨rfl, rfl⟩
  go_wp2_with (first | (refine wpList_store_row rfl 40 _ _ rfl (w.heap.size + 1 + 1) #[.int .i64 4, .string ⟨#[]⟩, .slice none 0 0, .slice none 0 0, .int .i64 0] rfl rfl 40 Z5 (by have := alloc_at ((w.alloc (.cells #[.int .i64 k, .int .i64 n, .slice ao l.length ac] 74)).alloc (.cells Z5 40)) (.cells Z5 40); simp only [World.heap_size_alloc] at this; exact this) info40 rfl (by simp [Value.oneCell']) ?_))
  have HS := Lib.hid (MW_inv l w #[.int .i64 k, .int .i64 n, .slice ao l.length ac])
  go_loopw [4] (fun iv wr => MInv l w #[.int .i64 k, .int .i64 n, .slice ao l.length ac] iv wr) (fun iv _ => l.length - (intOf iv).toNat)
  case atStart => exact HS.out
  case round =>
    clear HS
    obtain ⟨j, v, hj, rfl, hgd, hown, hgz, hgr, hbel, hbs⟩ := hrel
    have HO := Lib.hid hown
    have HB := Lib.hid hbel
    have GZ := Lib.hid hgz
    have GD := Lib.hid hgd
    have GR := Lib.hid hgr
    have cr : wr.cell? ⟨w.heap.size, 2, none⟩ = some (.slice ao l.length ac) := by rw [Lib.cell_of_heap hgr]; rfl
    clear hown hbel hgz hgd hgr
    by_cases hlt : j < l.length
    · have q1 : decide ((j : Int) < (l.length : Int)) = true := decide_eq_true (by omega)
      obtain ⟨b, k', n', po, pl, pc, rfl, hlj, c0, c1, c2, i1, i2, hpl⟩ := (HR.out.below HB.out).get j hlt
      have hcj := cnts_get l j hlt
      rw [hlj] at hcj
      simp only [Rw.cnt] at hcj
      have hd : l[j].make = (Rw.mk k' n' pl).make := by rw [hlj]
      have HX := Lib.hid (ih_at N IH HC.out hcj i1 i2 (w := wr.drew) (po := po) (pc := pc) (hpl.below (Below.refl _ _).drew))
      have C0 := Lib.hid c0
      have C1 := Lib.hid c1
      have C2 := Lib.hid c2
      have bl : b.block < w.heap.size := RsAt.block HR.out hlt
      have CR := Lib.hid cr
      go_upto_region 13 with fail
      clear cr c0 c1 c2 hlj i1 i2 hpl IH q1
      refine wp_region_noPanic ?_
      refine wp_region_held_drew (S := Below (w.heap.size + 1 + 1) wr) (by kernel_rfl) ((Below.refl _ _).drew) (fun hHeld => ?_)
      refine wpAnyH_take (i := 0) (v := Value.pointer (some ⟨w.heap.size + 1 + 1, 3, none⟩)) rfl (by kernel_rfl) (by kernel_rfl) (by kernel_rfl) (fun _ _ _ h => h) (Or.inl ⟨rfl, fun w' hw' => ?_⟩) hHeld ?_
      · go_simp
      simp only [List.getElem_toArray, List.getElem_cons_succ, List.getElem_cons_zero, Act.put, List.setIfInBounds_toArray, List.set_cons_zero, List.set_cons_succ]
      refine wpAnyH_take (i := 2) (v := Value.pointer (some ⟨w.heap.size, 2, none⟩)) rfl (by kernel_rfl) (by kernel_rfl) (by kernel_rfl) (fun _ _ _ h => h) (Or.inl ⟨rfl, fun w' hw' => ?_⟩) hHeld ?_
      · go_simp
      simp only [List.getElem_toArray, List.getElem_cons_succ, List.getElem_cons_zero, Act.put, List.setIfInBounds_toArray, List.set_cons_zero, List.set_cons_succ]
      refine wpAnyH_take (i := 3) (v := Value.slice (some b) l.length ac) rfl (by kernel_rfl) (by kernel_rfl) (by kernel_rfl) (fun _ _ _ h => h) (Or.inl ⟨rfl, fun w' hw' => ?_⟩) hHeld ?_
      · have c := (hw'.cell (p := ⟨w.heap.size, 2, none⟩) (by show w.heap.size < _; omega)).trans CR.out; go_simp
      simp only [List.getElem_toArray, List.getElem_cons_succ, List.getElem_cons_zero, Act.put, List.setIfInBounds_toArray, List.set_cons_zero, List.set_cons_succ]
      refine wpAnyH_take (i := 4) (v := Value.int .i64 j) rfl (by kernel_rfl) (by kernel_rfl) (by kernel_rfl) (fun _ _ _ h => h) (Or.inl ⟨rfl, fun w' hw' => ?_⟩) hHeld ?_
      · go_simp
      simp only [List.getElem_toArray, List.getElem_cons_succ, List.getElem_cons_zero, Act.put, List.setIfInBounds_toArray, List.set_cons_zero, List.set_cons_succ]
      refine wpAnyH_take (i := 5) (v := Value.pointer (some (b.add (j * 3)))) rfl (by kernel_rfl) (by kernel_rfl) (by kernel_rfl) (fun _ _ _ h => h) (Or.inl ⟨rfl, fun w' hw' => ?_⟩) hHeld ?_
      · go_simp
      simp only [List.getElem_toArray, List.getElem_cons_succ, List.getElem_cons_zero, Act.put, List.setIfInBounds_toArray, List.set_cons_zero, List.set_cons_succ]
      refine wpAnyH_take (i := 6) (v := Value.agg #[.int .i64 k', .int .i64 n', .slice po pl.length pc]) rfl (by kernel_rfl) (by kernel_rfl) (by kernel_rfl) (fun _ _ _ h => h) (Or.inl ⟨rfl, fun w' hw' => ?_⟩) hHeld ?_
      · have q0 := (hw'.cell (p := b.add (j * 3)) (by rw [add_block]; omega)).trans C0.out; have q1 := (hw'.cell (p := ⟨(b.add (j * 3)).block, (b.add (j * 3)).off + 1, none⟩) (by show (b.add (j * 3)).block < _; rw [add_block]; omega)).trans C1.out; have q2 := (hw'.cell (p := ⟨(b.add (j * 3)).block, (b.add (j * 3)).off + 2, none⟩) (by show (b.add (j * 3)).block < _; rw [add_block]; omega)).trans C2.out; go_simp
      simp only [List.getElem_toArray, List.getElem_cons_succ, List.getElem_cons_zero, Act.put, List.setIfInBounds_toArray, List.set_cons_zero, List.set_cons_succ]
      refine wpAnyH_ready (rs := [1, 7]) (by kernel_rfl) (by simp) ?_
      refine (AllReadyH.cons rfl (fun K hK => ?_) (AllReadyH.cons rfl (fun K hK => ?_) AllReadyH.nil))
      · skip
        have c45 := (show wr.cell? ⟨w.heap.size + 1 + 1, 3, none⟩ = some v by rw [Lib.cell_of_heap GD.out]; rfl)
        go_simp
        refine hK.out _ _ hHeld (fun hHeld => ?_)
        clear hK K c45
        try simp only [List.getElem_toArray, List.getElem_cons_succ, List.getElem_cons_zero, Act.put, List.setIfInBounds_toArray, List.set_cons_zero, List.set_cons_succ]
        refine wpAnyH_ready (rs := [7]) (by kernel_rfl) (by simp) ?_
        refine (AllReadyH.cons rfl (fun K hK => ?_) AllReadyH.nil)
        go_simp
        refine HX.out.mono ?_
        rintro e w7 ⟨cs, rfl, hat, hb⟩
        obtain ⟨k5, t5, mv5, lv5, p5, rfl, o1, o2⟩ := At_form hat
        obtain ⟨xs, hown8, hz8, hnx⟩ := made_more hlt hl1 GD.out HO.out GZ.out GR.out HB.out hbs hd hat hb rfl
        have HN := Lib.hid hnx
        have HO8 := Lib.hid hown8
        have hb7 : Below (w.heap.size + 1 + 1 + 1) wr w7 := ((Below.refl wr.heap.size wr).drew.trans hb).mono (by omega)
        have HB7 := Lib.hid hb7
        have hS7 := hb7.mono (show w.heap.size + 1 + 1 ≤ w.heap.size + 1 + 1 + 1 by omega)
        have hz7 := hb7.size
        refine hK.out _ _ hS7 (fun hHeld => ?_)
        clear hK K hat hb hown8 hnx hb7 hS7
        try simp only [List.getElem_toArray, List.getElem_cons_succ, List.getElem_cons_zero, Act.put, List.setIfInBounds_toArray, List.set_cons_zero, List.set_cons_succ]
        refine wpAnyH_ready (rs := [8]) (by kernel_rfl) (by simp) ?_
        refine (AllReadyH.cons rfl (fun K hK => ?_) AllReadyH.nil)
        go_simp
        refine hK.out _ _ (hHeld.alloc (by omega) _) (fun hHeld => ?_)
        clear hK K
        try simp only [List.getElem_toArray, List.getElem_cons_succ, List.getElem_cons_zero, Act.put, List.setIfInBounds_toArray, List.set_cons_zero, List.set_cons_succ]
        refine wpAnyH_ready (rs := [9]) (by kernel_rfl) (by simp) ?_
        refine (AllReadyH.cons rfl (fun K hK => ?_) AllReadyH.nil)
        rw [if_pos (by rfl)]
        refine wp_app (Operand.tmp 45) (Operand.tmp 52) rfl (w.heap.size + 1 + 1 + 1) v j xs rfl HO8.out w7.heap.size 1 rfl [.int .i64 k5, .string t5, mv5, lv5, .int .i64 p5] rfl (fun i u hu => ?_) (by simp; exact ⟨rfl, rfl, o1, o2, rfl⟩) (by omega) hz8 ?_
        · rw [Lib.cell_of_heap (alloc_at w7 (.cells #[.int .i64 k5, .string t5, mv5, lv5, .int .i64 p5] 40))]; simpa using hu
        intro v' w9 hown9 hg9 hv9
        obtain ⟨so, sn, sc, rfl⟩ := own_form hown9
        obtain ⟨hS9, g9, hS10, hM⟩ := HN.out _ w9 hown9 hg9 hv9
        have HM := Lib.hid hM
        have HS := Lib.hid hS10
        have cc : w9.cell? ⟨w.heap.size + 1 + 1, 3, none⟩ = some v := by rw [Lib.cell_of_heap g9]; rfl
        have cf := frozen_of_row w9 (w.heap.size + 1 + 1) 3 _ 40 g9
        refine hK.out _ _ hS9 (fun hHeld => ?_)
        clear hK K hown9 hg9 hv9 hS10 hM g9 HN HO8 hS9
        try simp only [List.getElem_toArray, List.getElem_cons_succ, List.getElem_cons_zero, Act.put, List.setIfInBounds_toArray, List.set_cons_zero, List.set_cons_succ]
        refine wpAnyH_take (i := 10) (v := Value.pointer (some ⟨w.heap.size + 1 + 1, 3, none⟩)) rfl (by kernel_rfl) (by kernel_rfl) (by kernel_rfl) (fun _ _ _ h => h) (Or.inl ⟨rfl, fun w' hw' => ?_⟩) hHeld ?_
        · go_simp
        simp only [List.getElem_toArray, List.getElem_cons_succ, List.getElem_cons_zero, Act.put, List.setIfInBounds_toArray, List.set_cons_zero, List.set_cons_succ]
        refine wpAnyH_ready (rs := [11]) (by kernel_rfl) (by simp) ?_
        refine (AllReadyH.cons rfl (fun K hK => ?_) AllReadyH.nil)
        go_simp
        refine hK.out _ _ HS.out (fun hHeld => ?_)
        clear hK K cc cf
        try simp only [List.getElem_toArray, List.getElem_cons_succ, List.getElem_cons_zero, Act.put, List.setIfInBounds_toArray, List.set_cons_zero, List.set_cons_succ]
        refine wpAnyH_done (by kernel_rfl) ?_ _
        refine NoPanic.normal ?_
        clear hHeld
        go_wp2_with fail
        go_roundw
        case rel => exact HM.out
        case measure => simp [intOf]; omega
      · skip
        go_simp
        refine HX.out.mono ?_
        rintro e w7 ⟨cs, rfl, hat, hb⟩
        obtain ⟨k5, t5, mv5, lv5, p5, rfl, o1, o2⟩ := At_form hat
        obtain ⟨xs, hown8, hz8, hnx⟩ := made_more hlt hl1 GD.out HO.out GZ.out GR.out HB.out hbs hd hat hb rfl
        have HN := Lib.hid hnx
        have HO8 := Lib.hid hown8
        have hb7 : Below (w.heap.size + 1 + 1 + 1) wr w7 := ((Below.refl wr.heap.size wr).drew.trans hb).mono (by omega)
        have HB7 := Lib.hid hb7
        have hS7 := hb7.mono (show w.heap.size + 1 + 1 ≤ w.heap.size + 1 + 1 + 1 by omega)
        have hz7 := hb7.size
        refine hK.out _ _ hS7 (fun hHeld => ?_)
        clear hK K hat hb hown8 hnx hb7 hS7
        try simp only [List.getElem_toArray, List.getElem_cons_succ, List.getElem_cons_zero, Act.put, List.setIfInBounds_toArray, List.set_cons_zero, List.set_cons_succ]
        refine wpAnyH_ready (rs := [1, 8]) (by kernel_rfl) (by simp) ?_
        refine (AllReadyH.cons rfl (fun K hK => ?_) (AllReadyH.cons rfl (fun K hK => ?_) AllReadyH.nil))
        · skip
          have c45 := (show w7.cell? ⟨w.heap.size + 1 + 1, 3, none⟩ = some v by rw [HB7.out.cell (p := ⟨w.heap.size + 1 + 1, 3, none⟩) (by show w.heap.size + 1 + 1 < _; omega), Lib.cell_of_heap GD.out]; rfl)
          go_simp
          refine hK.out _ _ hHeld (fun hHeld => ?_)
          clear hK K c45
          try simp only [List.getElem_toArray, List.getElem_cons_succ, List.getElem_cons_zero, Act.put, List.setIfInBounds_toArray, List.set_cons_zero, List.set_cons_succ]
          refine wpAnyH_ready (rs := [8]) (by kernel_rfl) (by simp) ?_
          refine (AllReadyH.cons rfl (fun K hK => ?_) AllReadyH.nil)
          go_simp
          refine hK.out _ _ (hHeld.alloc (by omega) _) (fun hHeld => ?_)
          clear hK K
          try simp only [List.getElem_toArray, List.getElem_cons_succ, List.getElem_cons_zero, Act.put, List.setIfInBounds_toArray, List.set_cons_zero, List.set_cons_succ]
          refine wpAnyH_ready (rs := [9]) (by kernel_rfl) (by simp) ?_
          refine (AllReadyH.cons rfl (fun K hK => ?_) AllReadyH.nil)
          rw [if_pos (by rfl)]
          refine wp_app (Operand.tmp 45) (Operand.tmp 52) rfl (w.heap.size + 1 + 1 + 1) v j xs rfl HO8.out w7.heap.size 1 rfl [.int .i64 k5, .string t5, mv5, lv5, .int .i64 p5] rfl (fun i u hu => ?_) (by simp; exact ⟨rfl, rfl, o1, o2, rfl⟩) (by omega) hz8 ?_
          · rw [Lib.cell_of_heap (alloc_at w7 (.cells #[.int .i64 k5, .string t5, mv5, lv5, .int .i64 p5] 40))]; simpa using hu
          intro v' w9 hown9 hg9 hv9
          obtain ⟨so, sn, sc, rfl⟩ := own_form hown9
          obtain ⟨hS9, g9, hS10, hM⟩ := HN.out _ w9 hown9 hg9 hv9
          have HM := Lib.hid hM
          have HS := Lib.hid hS10
          have cc : w9.cell? ⟨w.heap.size + 1 + 1, 3, none⟩ = some v := by rw [Lib.cell_of_heap g9]; rfl
          have cf := frozen_of_row w9 (w.heap.size + 1 + 1) 3 _ 40 g9
          refine hK.out _ _ hS9 (fun hHeld => ?_)
          clear hK K hown9 hg9 hv9 hS10 hM g9 HN HO8 hS9
          try simp only [List.getElem_toArray, List.getElem_cons_succ, List.getElem_cons_zero, Act.put, List.setIfInBounds_toArray, List.set_cons_zero, List.set_cons_succ]
          refine wpAnyH_take (i := 10) (v := Value.pointer (some ⟨w.heap.size + 1 + 1, 3, none⟩)) rfl (by kernel_rfl) (by kernel_rfl) (by kernel_rfl) (fun _ _ _ h => h) (Or.inl ⟨rfl, fun w' hw' => ?_⟩) hHeld ?_
          · go_simp
          simp only [List.getElem_toArray, List.getElem_cons_succ, List.getElem_cons_zero, Act.put, List.setIfInBounds_toArray, List.set_cons_zero, List.set_cons_succ]
          refine wpAnyH_ready (rs := [11]) (by kernel_rfl) (by simp) ?_
          refine (AllReadyH.cons rfl (fun K hK => ?_) AllReadyH.nil)
          go_simp
          refine hK.out _ _ HS.out (fun hHeld => ?_)
          clear hK K cc cf
          try simp only [List.getElem_toArray, List.getElem_cons_succ, List.getElem_cons_zero, Act.put, List.setIfInBounds_toArray, List.set_cons_zero, List.set_cons_succ]
          refine wpAnyH_done (by kernel_rfl) ?_ _
          refine NoPanic.normal ?_
          clear hHeld
          go_wp2_with fail
          go_roundw
          case rel => exact HM.out
          case measure => simp [intOf]; omega
        · skip
          go_simp
          refine hK.out _ _ (hHeld.alloc (by omega) _) (fun hHeld => ?_)
          clear hK K
          try simp only [List.getElem_toArray, List.getElem_cons_succ, List.getElem_cons_zero, Act.put, List.setIfInBounds_toArray, List.set_cons_zero, List.set_cons_succ]
          refine wpAnyH_ready (rs := [1]) (by kernel_rfl) (by simp) ?_
          refine (AllReadyH.cons rfl (fun K hK => ?_) AllReadyH.nil)
          have c45 := (show (w7.alloc (.cells #[.int .i64 k5, .string t5, mv5, lv5, .int .i64 p5] 40)).cell? ⟨w.heap.size + 1 + 1, 3, none⟩ = some v by rw [(HB7.out.alloc (by omega) _).cell (p := ⟨w.heap.size + 1 + 1, 3, none⟩) (by show w.heap.size + 1 + 1 < _; omega), Lib.cell_of_heap GD.out]; rfl)
          go_simp
          refine hK.out _ _ hHeld (fun hHeld => ?_)
          clear hK K c45
          try simp only [List.getElem_toArray, List.getElem_cons_succ, List.getElem_cons_zero, Act.put, List.setIfInBounds_toArray, List.set_cons_zero, List.set_cons_succ]
          refine wpAnyH_ready (rs := [9]) (by kernel_rfl) (by simp) ?_
          refine (AllReadyH.cons rfl (fun K hK => ?_) AllReadyH.nil)
          rw [if_pos (by rfl)]
          refine wp_app (Operand.tmp 45) (Operand.tmp 52) rfl (w.heap.size + 1 + 1 + 1) v j xs rfl HO8.out w7.heap.size 1 rfl [.int .i64 k5, .string t5, mv5, lv5, .int .i64 p5] rfl (fun i u hu => ?_) (by simp; exact ⟨rfl, rfl, o1, o2, rfl⟩) (by omega) hz8 ?_
          · rw [Lib.cell_of_heap (alloc_at w7 (.cells #[.int .i64 k5, .string t5, mv5, lv5, .int .i64 p5] 40))]; simpa using hu
          intro v' w9 hown9 hg9 hv9
          obtain ⟨so, sn, sc, rfl⟩ := own_form hown9
          obtain ⟨hS9, g9, hS10, hM⟩ := HN.out _ w9 hown9 hg9 hv9
          have HM := Lib.hid hM
          have HS := Lib.hid hS10
          have cc : w9.cell? ⟨w.heap.size + 1 + 1, 3, none⟩ = some v := by rw [Lib.cell_of_heap g9]; rfl
          have cf := frozen_of_row w9 (w.heap.size + 1 + 1) 3 _ 40 g9
          refine hK.out _ _ hS9 (fun hHeld => ?_)
          clear hK K hown9 hg9 hv9 hS10 hM g9 HN HO8 hS9
          try simp only [List.getElem_toArray, List.getElem_cons_succ, List.getElem_cons_zero, Act.put, List.setIfInBounds_toArray, List.set_cons_zero, List.set_cons_succ]
          refine wpAnyH_take (i := 10) (v := Value.pointer (some ⟨w.heap.size + 1 + 1, 3, none⟩)) rfl (by kernel_rfl) (by kernel_rfl) (by kernel_rfl) (fun _ _ _ h => h) (Or.inl ⟨rfl, fun w' hw' => ?_⟩) hHeld ?_
          · go_simp
          simp only [List.getElem_toArray, List.getElem_cons_succ, List.getElem_cons_zero, Act.put, List.setIfInBounds_toArray, List.set_cons_zero, List.set_cons_succ]
          refine wpAnyH_ready (rs := [11]) (by kernel_rfl) (by simp) ?_
          refine (AllReadyH.cons rfl (fun K hK => ?_) AllReadyH.nil)
          go_simp
          refine hK.out _ _ HS.out (fun hHeld => ?_)
          clear hK K cc cf
          try simp only [List.getElem_toArray, List.getElem_cons_succ, List.getElem_cons_zero, Act.put, List.setIfInBounds_toArray, List.set_cons_zero, List.set_cons_succ]
          refine wpAnyH_done (by kernel_rfl) ?_ _
          refine NoPanic.normal ?_
          clear hHeld
          go_wp2_with fail
          go_roundw
          case rel => exact HM.out
          case measure => simp [intOf]; omega
    · obtain rfl : j = l.length := by omega
      have HO' := HO.out
      rw [List.take_length] at HO'
      have HQ := Lib.hid HO'
      have q1 : decide ((l.length : Int) < (l.length : Int)) = false := decide_eq_false (by omega)
      clear HO HO' cr hlt
      have cr : wr.cell? ⟨w.heap.size, 2, none⟩ = some (.slice ao l.length ac) := by rw [Lib.cell_of_heap GR.out]; rfl
      go_wp2_with (first | (refine wpList_load_row rfl 40 _ rfl (w.heap.size + 1 + 1) rfl 40 #[.int .i64 4, .string ⟨#[]⟩, .slice none 0 0, v, .int .i64 0] (0, 0) _ GD.out Tryd.underlying40 rfl info40 ?_) | (refine wpList_store_row rfl 40 _ _ rfl (w.heap.size + 1) #[.int .i64 4, .string ⟨#[]⟩, .slice none 0 0, v, .int .i64 0] rfl rfl 40 Z5 GZ.out info40 rfl (by simp [Value.oneCell']; exact HQ.out.at.one) ?_))
      refine bodyPost_ret (results_cell_row rfl _ _ (w.heap.size + 1) 40 #[.int .i64 4, .string ⟨#[]⟩, .slice none 0 0, v, .int .i64 0] (0, 0) _ rfl (setRow_heap wr _ _ _ 40 _ GZ.out) Tryd.underlying40 rfl info40) rfl ?_
      exact ⟨_, rfl, list_new HQ.out GZ.out, below_setRow HB.out _ _ (by omega)⟩

theorem make_any (N : Nat) (hN : N ≤ 1000000) : ∀ (k n : Int) (pl : List Rw), 1 + Rw.cnts pl ≤ N → I64 k → I64 n → ∀ (po : Option Addr) (pc : Nat) (w : World), RsAt w po pl →
      Calls Tryd.prog 38 #[.agg #[.int .i64 k, .int .i64 n, .slice po pl.length pc]] w (RetMk (Rw.make (.mk k n pl)) w) := by
  induction N with
  | zero => intro k n pl h; omega
  | succ N ih =>
    intro k n pl h hk hn po pc w hR
    have h0 := Int.emod_nonneg k (show (7 : Int) ≠ 0 by decide)
    have h6 := Int.emod_lt_of_pos k (show (0 : Int) < 7 by decide)
    obtain ⟨q, h7⟩ : ∃ q, k % 7 = q := ⟨_, rfl⟩
    rw [h7] at h0 h6
    by_cases hq : q = 4 ∨ q = 5 ∨ q = 6
    · rw [makes_list k n pl q h7 hq]
      exact make_list N (by omega) (ih (by omega)) k n pl q hk h7 hq (by omega) po pc w hR
    · by_cases q0 : q = 0
      · subst q0; rw [Rw.make, if_pos h7]; exact make_int k n po pl pc w hk hn h7
      · by_cases q1 : q = 1
        · subst q1; rw [Rw.make, if_neg (by omega), if_pos h7]; exact make_bool k n po pl pc w hk hn h7
        · by_cases q2 : q = 2
          · subst q2; rw [Rw.make, if_neg (by omega), if_neg (by omega), if_pos (by omega)]; exact make_sym2 k n po pl pc w hk hn h7
          · have q3 : q = 3 := by omega
            subst q3; rw [Rw.make, if_neg (by omega), if_neg (by omega), if_pos (by omega)]; exact make_sym3 k n po pl pc w hk hn h7
end Go.Proofs.YtahdiknkcgnieaaDoor
namespace Go.Proofs.YtahdiknkcgnieaaDoor
open Go.RowKit
set_option linter.unusedVariables false
set_option linter.unusedSimpArgs false

def RetAll (l : List Rw) (w : World) (e : Ending) (w' : World) : Prop := ∃ v, e = .returned v ∧ OwnD w.heap.size w' v (Rw.makes l) ∧ Below w.heap.size w w'
def AInv (l : List Rw) (w : World) (sv iv : Value) (wr : World) : Prop := ∃ j : Nat, j ≤ l.length ∧ iv = .int .i64 j ∧ OwnD w.heap.size wr sv (Rw.makes (l.take j)) ∧ Below w.heap.size w wr

set_option maxHeartbeats 4000000 in
set_option maxRecDepth 100000 in
theorem all_any (l : List Rw) (hl : Rw.cnts l ≤ 1000000) (ao : Option Addr) (ac : Nat) (w : World) (hR : RsAt w ao l) :
    Calls Tryd.prog 20 #[.slice ao l.length ac] w (RetAll l w) := by
  have hll := length_cnts l
  have hl1 : l.length ≤ 1000000 := by omega
  have HR := Lib.hid hR
  have HC := Lib.hid hl
  clear hR hl hll
  go_enter Tryd.func20, Tryd.ntmps20
  go_wp2_with fail
  go_loopw [3, 4] (fun sv iv wr => AInv l w sv iv wr) (fun _ iv _ => l.length - (intOf iv).toNat)
  case atStart => exact ⟨0, Nat.zero_le _, rfl, OwnD.nil _ _, Below.refl _ _⟩
  case round =>
    obtain ⟨j, hj, rfl, hown, hbel⟩ := hrel
    have HO := Lib.hid hown
    have HB := Lib.hid hbel
    clear hown hbel
    by_cases hlt : j < l.length
    · have q1 : decide ((j : Int) < (l.length : Int)) = true := decide_eq_true (by omega)
      obtain ⟨b, k', n', po, pl, pc, rfl, hlj, c0, c1, c2, i1, i2, hpl⟩ := (HR.out.below HB.out).get j hlt
      have hcj := cnts_get l j hlt
      have hd : l[j].make = (Rw.mk k' n' pl).make := by rw [hlj]
      rw [hlj] at hcj
      simp only [Rw.cnt] at hcj
      have hlm : (Rw.makes (l.take j)).length = j := by rw [makes_length, List.length_take]; omega
      have HX := Lib.hid (make_any 1000000 (by decide) k' n' pl (by have := HC.out; omega) i1 i2 po pc wr hpl)
      have HT := Lib.hid (makes_take l j hlt)
      have HD := Lib.hid hd
      have HLM := Lib.hid hlm
      clear hd hlj hcj i1 i2 hpl hlm
      go_wp2_with fail
      refine HX.out.mono ?_
      rintro e w7 ⟨cs, rfl, hat, hb⟩
      obtain ⟨k5, t5, mv5, lv5, p5, rfl, o1, o2⟩ := At_form hat
      obtain ⟨xs, hown8, hz8, hnx⟩ := all_more HO.out (by rw [HLM.out]; omega) HB.out.size hat hb rfl
      rw [HLM.out] at hown8 hnx
      have HN := Lib.hid hnx
      have HO8 := Lib.hid hown8
      clear hat hb hown8 hnx c0 c1 c2
      go_wp2_with (refine wpList_wanted (by rfl) fun K hK => ?_; refine wp_app (Operand.tmp 11) (Operand.tmp 17) rfl w.heap.size u3 j xs rfl HO8.out w7.heap.size 1 rfl [.int .i64 k5, .string t5, mv5, lv5, .int .i64 p5] rfl (fun i u hu => by rw [Lib.cell_of_heap (alloc_at w7 (.cells #[.int .i64 k5, .string t5, mv5, lv5, .int .i64 p5] 40))]; simpa using hu) (by simp; exact ⟨rfl, rfl, o1, o2, rfl⟩) (by omega) hz8 ?_; intro v' w9 hown9 hg9 hv9; have HM := Lib.hid (HN.out v' w9 hown9 hg9 hv9); clear hown9 hg9 hv9 HN HO8; refine hK _ _ ?_; clear hK K)
      go_roundw
      case rel =>
        refine ⟨j + 1, by omega, by go_num, ?_, HB.out.trans HM.out.1⟩
        rw [HT.out, HD.out]
        exact HM.out.2
      case measure => simp [intOf]; omega
    · obtain rfl : j = l.length := by omega
      have q1 : decide ((l.length : Int) < (l.length : Int)) = false := decide_eq_false (by omega)
      go_wp2_with fail
      go_ret
      refine ⟨_, rfl, ?_, HB.out⟩
      have := HO.out
      rw [List.take_length] at this
      exact this
end Go.Proofs.YtahdiknkcgnieaaDoor
namespace Go.Proofs.YtahdiknkcgnieaaDoor
open Go.RowKit
set_option linter.unusedVariables false

theorem size_list (t : ByteArray) : t.data.toList.length = t.size := by rw [Array.length_toList]; rfl
theorem getD_le (l : List ByteArray) (m : Nat) (h : ∀ t ∈ l, t.size ≤ m) (i : Nat) : (l.getD i ⟨#[]⟩).size ≤ m := by
  rw [List.getD_eq_getElem?_getD]
  cases hq : l[i]? with
  | none => exact Nat.zero_le _
  | some t => simp; exact h t (List.mem_of_getElem? hq)
theorem tblI_le : ∀ t ∈ tblI, t.size ≤ 30 := by decide
theorem tblB_le : ∀ t ∈ tblB, t.size ≤ 30 := by decide
theorem tblS_le : ∀ t ∈ tblS, t.size ≤ 30 := by decide
theorem leaf_txt (k : Int) (t : ByteArray) (ms : List Int) (l : List Dt) (p : Int) (hk : k ≠ 4) : (Dt.mk k t ms l p).txt = t.data.toList := by simp [Dt.txt, hk]
theorem txts_txtr (l : List Dt) : (Dt.txts l).length ≤ (Dt.txtr l).length := by cases l <;> simp [Dt.txts, Dt.txtr]
mutual
theorem make_txt : ∀ (r : Rw), r.make.txt.length + 1 ≤ 41 * r.cnt
  | .mk k n l => by
    rw [Rw.make]
    have hc : 41 ≤ 41 * (Rw.mk k n l).cnt := by simp only [Rw.cnt]; omega
    split
    · rw [leaf_txt _ _ _ _ _ (by decide), size_list]; have := getD_le _ _ tblI_le (n % 5).toNat; omega
    · split
      · rw [leaf_txt _ _ _ _ _ (by decide), size_list]; have := getD_le _ _ tblB_le (n % 2).toNat; omega
      · split
        · rw [leaf_txt _ _ _ _ _ (by decide), size_list]; have := getD_le _ _ tblS_le (n % 11).toNat; omega
        · have h1 := makes_txt l
          have h2 := txts_txtr (Rw.makes l)
          simp only [Dt.txt, if_true, List.length_cons, List.length_append, List.length_nil, Rw.cnt]
          omega
theorem makes_txt : ∀ (l : List Rw), (Dt.txtr (Rw.makes l)).length ≤ 41 * Rw.cnts l
  | [] => by simp [Rw.makes, Dt.txtr]
  | r :: l => by
    have h1 := make_txt r
    have h2 := makes_txt l
    simp only [Rw.makes, Dt.txtr, Rw.cnts, List.length_cons, List.length_append]
    omega
end
mutual
theorem make_size : ∀ (r : Rw), r.make.size ≤ r.cnt
  | .mk k n l => by
    have h1 := makes_size l
    rw [Rw.make]
    split
    · simp only [Dt.size, Dt.sizes, Rw.cnt]; omega
    · split
      · simp only [Dt.size, Dt.sizes, Rw.cnt]; omega
      · split
        · simp only [Dt.size, Dt.sizes, Rw.cnt]; omega
        · simp only [Dt.size, Rw.cnt]; omega
theorem makes_size : ∀ (l : List Rw), Dt.sizes (Rw.makes l) ≤ Rw.cnts l
  | [] => by simp [Rw.makes, Dt.sizes]
  | r :: l => by
    have h1 := make_size r
    have h2 := makes_size l
    simp only [Rw.makes, Dt.sizes, Rw.cnts]
    omega
end
theorem str_app (a b : List UInt8) : (⟨a.toArray⟩ ++ ⟨b.toArray⟩ : ByteArray) = ⟨(a ++ b).toArray⟩ := by
  apply ByteArray.ext
  simp [ByteArray.data_append]
theorem str_app1 (a : List UInt8) (c : UInt8) : (⟨a.toArray⟩ ++ ⟨#[c]⟩ : ByteArray) = ⟨(a ++ [c]).toArray⟩ := str_app a [c]
end Go.Proofs.YtahdiknkcgnieaaDoor
namespace Go.Proofs.YtahdiknkcgnieaaDoor
open Go.RowKit
set_option linter.unusedVariables false
set_option linter.unusedSimpArgs false
theorem rd_none : rd [] 3 .next 0 ⟨0, false, []⟩ [] = some (.ok []) := by kernel_rfl
def exDt : List Dt := [.mk 4 ⟨#[]⟩ [] [.mk 3 ⟨#[97]⟩ [] [] 1, .mk 1 ⟨#[49]⟩ [] [] 3] 0]
theorem rd_ex : rd [40, 97, 32, 49, 41] 20 .next 0 ⟨0, false, []⟩ [] = some (.ok exDt) := by kernel_rfl
def RetBool (b : Bool) (w : World) (e : Ending) (w' : World) : Prop := e = .returned (.bool b) ∧ Below w.heap.size w w'
/-- A slice of data: the cells of the one at a place. -/
theorem LAt.at {S : Nat → Prop} {w : World} {g o n cap : Nat} {l : List Dt} (h : LAt S w (.slice (some ⟨g, o, none⟩) n cap) l) (j : Nat) (hj : j < l.length) : ∃ k t mv lv p, Dt.At S w l[j] #[.int .i64 k, .string t, mv, lv, .int .i64 p] ∧
      w.cell? ⟨g, o + j * 5, none⟩ = some (.int .i64 k) ∧ w.cell? ⟨g, o + j * 5 + 1, none⟩ = some (.string t) ∧ w.cell? ⟨g, o + j * 5 + 2, none⟩ = some mv ∧
      w.cell? ⟨g, o + j * 5 + 3, none⟩ = some lv ∧ w.cell? ⟨g, o + j * 5 + 4, none⟩ = some (.int .i64 p) := by
  obtain ⟨g', o', k, t, mv, lv, p, e, _, _, h1, h2, h3, h4, h5, h6, _⟩ := h.get j hj
  injection e with e
  injection e with e1 e2 _
  subst e1 e2
  exact ⟨k, t, mv, lv, p, h1, h2, h3, h4, h5, h6⟩
theorem LAt.some {S : Nat → Prop} {w : World} {v : Value} {l : List Dt} (h : LAt S w v l) (hl : l ≠ []) : ∃ g o cap, v = .slice (some ⟨g, o, none⟩) l.length cap := by
  rcases h with ⟨_, h2⟩ | ⟨g, o, cap, arr, fz, rfl, _⟩
  · exact absurd h2 hl
  · exact ⟨g, o, cap, rfl⟩
set_option maxRecDepth 100000 in
set_option maxHeartbeats 1000000 in
theorem known_any (w : World) : Calls Tryd.prog 13 #[] w (RetBool true w) := by
  have F1 := Lib.hid (fun w => read_any ⟨#[]⟩ w (by decide) _ _ rd_none)
  have F2 := Lib.hid (fun w => read_any ⟨#[40, 97, 32, 49, 41]⟩ w (by decide) _ _ rd_ex)
  go_enter Tryd.func13, Tryd.ntmps13
  go_wp2_with fail
  refine (F1.out _).mono ?_
  rintro e1 w1 ⟨hb1, v1, rfl, hv1⟩
  obtain ⟨o1, c1, rfl⟩ := hv1.form
  have B1 := Lib.hid hb1
  clear hb1 hv1
  simp only [List.length_nil]
  go_wp2_with fail
  refine (F2.out _).mono ?_
  rintro e2 w2 ⟨hb2, v2, rfl, hv2⟩
  have B2 := Lib.hid (B1.out.trans (hb2.mono B1.out.size))
  obtain ⟨g, o, cap, rfl⟩ := hv2.some (by simp [exDt])
  obtain ⟨k, t, mv, lv, p, ha, a0, a1, a2, a3, a4⟩ := hv2.at 0 (by simp [exDt])
  have ha' : Dt.At _ w2 (.mk 4 ⟨#[]⟩ [] [.mk 3 ⟨#[97]⟩ [] [] 1, .mk 1 ⟨#[49]⟩ [] [] 3] 0) _ := ha
  rw [At_mk] at ha'
  obtain ⟨mv', lv', e, hm, hl⟩ := ha'
  simp at e
  obtain ⟨_, _, _, rfl, _⟩ := e
  obtain ⟨g2, o2, cap2, rfl⟩ := hl.some (by simp)
  obtain ⟨k3, t3, mv3, lv3, p3, ha3, b0, b1, b2, b3, b4⟩ := hl.at 0 (by simp)
  have ha3' : Dt.At _ w2 (.mk 3 ⟨#[97]⟩ [] [] 1) _ := ha3
  rw [At_mk] at ha3'
  obtain ⟨mv4, lv4, e4, _, _⟩ := ha3'
  simp at e4
  obtain ⟨_, rfl, _, _, _⟩ := e4
  simp only [Nat.zero_mul, Nat.add_zero] at a3 b1
  have hl2 : exDt.length = 1 := rfl
  clear ha hm hl ha3 b0 b2 b3 b4 a0 a1 a2 a4 hv2 hb2
  simp only [hl2, List.length_cons, List.length_nil]
  go_wp2_with fail
  go_ret
  exact ⟨rfl, B2.out⟩
end Go.Proofs.YtahdiknkcgnieaaDoor
namespace Go.Proofs.YtahdiknkcgnieaaDoor
open Go.RowKit
set_option linter.unusedVariables false
set_option linter.unusedSimpArgs false
theorem txtr_append : ∀ (l m : List Dt), Dt.txtr (l ++ m) = Dt.txtr l ++ Dt.txtr m
  | [], m => by simp [Dt.txtr]
  | d :: l, m => by simp [Dt.txtr, txtr_append l m, List.append_assoc]
theorem txts_snoc (l : List Dt) (d : Dt) : Dt.txts (l ++ [d]) = Dt.txts l ++ (if l = [] then [] else [32]) ++ d.txt := by
  cases l with
  | nil => simp [Dt.txts, Dt.txtr]
  | cons a l => simp [Dt.txts, txtr_append, Dt.txtr, List.append_assoc]
theorem txts_take (l : List Dt) (j : Nat) (h : j < l.length) : Dt.txts (l.take (j + 1)) = Dt.txts (l.take j) ++ (if j = 0 then [] else [32]) ++ l[j].txt := by
  rw [take_snoc_dt l j h, txts_snoc]
  by_cases h0 : j = 0
  · subst h0; simp
  · have : l.take j ≠ [] := by
      intro e
      have := congrArg List.length e
      rw [List.length_take, List.length_nil] at this; omega
    simp [this, h0]
theorem txts_le (l : List Dt) (j : Nat) : (Dt.txts (l.take j)).length ≤ (Dt.txts l).length := by
  cases l with
  | nil => simp
  | cons d l =>
    cases j with
    | zero => simp [Dt.txts]
    | succ j =>
      have e := txtr_append (l.take j) (l.drop j)
      rw [List.take_append_drop] at e
      simp only [List.take_succ_cons, Dt.txts, List.length_append, e]; omega
theorem txts_le2 (l : List Dt) (j : Nat) (h : j < l.length) : (Dt.txts (l.take j)).length + (if j = 0 then 0 else 1) + l[j].txt.length ≤ (Dt.txts l).length := by
  have h1 := txts_le l (j + 1)
  rw [txts_take l j h] at h1
  split at h1
  · rename_i h0; simp [h0] at h1 ⊢; omega
  · rename_i h0; simp [h0] at h1 ⊢; omega
def RetStr (s : ByteArray) (w : World) (e : Ending) (w' : World) : Prop := e = .returned (.string s) ∧ Below w.heap.size w w'
/-- The loop of thunkref2.Text. -/
def RTInv (l : List Dt) (w : World) (sv iv : Value) (wr : World) : Prop :=
  ∃ j : Nat, j ≤ l.length ∧ iv = .int .i64 j ∧ sv = .string ⟨(40 :: Dt.txts (l.take j)).toArray⟩ ∧ Below w.heap.size w wr
theorem rt_more {l : List Dt} {w wr : World} {j : Nat} (hlt : j < l.length) {X tx : ByteArray} (htx : tx = ⟨l[j].txt.toArray⟩) (hX : X = ⟨(40 :: (Dt.txts (l.take j) ++ (if j = 0 then [] else [32]))).toArray⟩) (hb : Below w.heap.size w wr) :
    RTInv l w (.string (X ++ tx)) (.int .i64 ((j : Int) + 1)) wr := by
  refine ⟨j + 1, by omega, by go_num, ?_, hb⟩
  rw [hX, htx, str_app, txts_take l j hlt]
  simp
set_option maxHeartbeats 4000000 in
theorem reftext_any (n : Nat) : n ≤ 1000000 → ∀ (d : Dt), d.size ≤ n → d.txt.length ≤ 5000 → ∀ (S : Nat → Prop) (cs : Array Value) (w : World), Dt.At S w d cs →
    Calls Tryd.prog 21 #[.agg cs] w (RetStr ⟨d.txt.toArray⟩ w) := by
  induction n with
  | zero => intro _ d hd; cases d; simp [Dt.size] at hd
  | succ n ih0 =>
    intro hn d hd ht5 S cs w hat
    have IH := Lib.hid (ih0 (by omega))
    clear ih0
    obtain ⟨k, t, ms, l, p⟩ := d
    rw [At_mk] at hat
    obtain ⟨mv, lv, rfl, hm, hl⟩ := hat
    have hsz : Dt.sizes l ≤ n := by simp only [Dt.size] at hd; omega
    have hln := length_sizes l
    have hm1 := hm.one
    have hl1 := hl.one
    have HB := Lib.hid ((Below.refl w.heap.size w).alloc (Nat.le_refl _) (.cells #[.int .i64 k, .string t, mv, lv, .int .i64 p] 40))
    have HL := Lib.hid (hl.keeps (Keeps.of_below HB.out))
    clear hm hd
    obtain ⟨ao, cap, rfl⟩ := hl.form
    clear hl
    by_cases hk : k = 4
    · have q0 : (k != 4) = false := by simp [hk]
      have htx : (Dt.mk k t ms l p).txt = 40 :: (Dt.txts l ++ [41]) := by simp [Dt.txt, hk]
      rw [htx] at ht5 ⊢
      simp only [List.length_cons, List.length_append, List.length_nil] at ht5
      clear htx hk
      have CA : Hid ((w.alloc (.cells #[.int .i64 k, .string t, mv, .slice ao l.length cap, .int .i64 p] 40)).cell? ⟨w.heap.size, 3, none⟩ = some (.slice ao l.length cap)) := by show _ = _; rw [Lib.cell_of_heap (alloc_at w _)]; rfl
      have hsw : w.heap.size < (w.alloc (.cells #[.int .i64 k, .string t, mv, .slice ao l.length cap, .int .i64 p] 40)).heap.size := by simp
      go_enter Tryd.func21, Tryd.ntmps21
      go_wp2_with fail
      clear q0
      generalize w.alloc (.cells #[.int .i64 k, .string t, mv, .slice ao l.length cap, .int .i64 p] 40) = W at HB HL CA hsw ⊢
      go_loopw [3, 4] (fun sv iv wr => RTInv l W sv iv wr) (fun _ iv _ => l.length - (intOf iv).toNat)
      case atStart => exact ⟨0, Nat.zero_le _, rfl, by simp [Dt.txts], Below.refl _ _⟩
      case round =>
        obtain ⟨j, hj, rfl, rfl, hb⟩ := hrel
        have G2 := Lib.hid hb
        have G3 := Lib.hid (HL.out.keeps (Keeps.of_below hb))
        have hBr : W.heap.size ≤ wr.heap.size := hb.size
        have cA := (hb.cell (p := ⟨w.heap.size, 3, none⟩) (by show w.heap.size < _; omega)).trans CA.out
        obtain ⟨X0, hX0⟩ : ∃ X0 : ByteArray, X0 = ⟨(40 :: Dt.txts (l.take j)).toArray⟩ := ⟨_, rfl⟩
        have hle := txts_le l j
        have hx0 : X0.size ≤ 5000 := by rw [hX0]; simp only [ByteArray.size, List.size_toArray, List.length_cons]; omega
        rw [← hX0]
        have HX0 := Lib.hid hX0
        clear hb hX0
        by_cases hlt : j < l.length
        · have q1 : decide ((j : Int) < (l.length : Int)) = true := decide_eq_true (by omega)
          obtain ⟨g, o, k', t', mv', lv', p', rfl, hS, -, hat, e0, e1, e2, e3, e4, o1, o2⟩ := G3.out.get j hlt
          have hsj := size_get l j hlt
          have hle2 := txts_le2 l j hlt
          have HC0 := IH.out l[j] (by omega) (by omega) S _ wr hat
          obtain ⟨tx, htx⟩ : ∃ tx : ByteArray, tx = ⟨l[j].txt.toArray⟩ := ⟨_, rfl⟩
          have htl : tx.size = l[j].txt.length := by rw [htx]; simp only [ByteArray.size, List.size_toArray]
          have hx1 : X0.size = 1 + (Dt.txts (l.take j)).length := by rw [HX0.out]; simp only [ByteArray.size, List.size_toArray, List.length_cons]; omega
          rw [← htx] at HC0
          have HC := Lib.hid HC0
          have HTX := Lib.hid htx
          clear hat hS HC0 htx
          by_cases h0 : j = 0
          · have hxt : X0.size + tx.size ≤ 5000 := by omega
            have htz : tx.size ≤ 5000 := by omega
            have HN := Lib.hid (fun (w4 : World) (hb4 : Below wr.heap.size wr w4) => rt_more (w := W) (wr := w4) hlt HTX.out (X := X0) (by rw [HX0.out]; simp [h0]) (G2.out.trans (hb4.mono hBr)))
            have q2 : decide ((0 : Int) < (j : Int)) = false := decide_eq_false (by omega)
            have q3 : ¬ 0 < j := by omega
            clear h0 hle hle2 htl hx1
            go_wp2_with fail
            refine HC.out.mono ?_
            rintro e w4 ⟨rfl, hb4⟩
            have HN4 := Lib.hid (HN.out w4 hb4)
            clear hb4 e0 e1 e2 e3 e4
            go_wp2_with fail
            go_roundw
            case rel => exact HN4.out
            case measure => simp [intOf]; omega
          · rw [if_neg h0] at hle2
            have hxt : X0.size + 1 + tx.size ≤ 5000 := by omega
            have htz : tx.size ≤ 5000 := by omega
            obtain ⟨X1, hX1⟩ : ∃ X1 : ByteArray, X1 = X0 ++ ⟨#[32]⟩ := ⟨_, rfl⟩
            have hx1z : X1.size = X0.size + 1 := by rw [hX1, HX0.out, str_app1]; simp [ByteArray.size]
            have HN := Lib.hid (fun (w4 : World) (hb4 : Below wr.heap.size wr w4) => rt_more (w := W) (wr := w4) hlt HTX.out (X := X1) (by rw [hX1, HX0.out, str_app1]; simp [h0]) (G2.out.trans (hb4.mono hBr)))
            have q2 : decide ((0 : Int) < (j : Int)) = true := decide_eq_true (by omega)
            have q3 : 0 < j := by omega
            clear h0 hle hle2 htl hx1
            go_wp2_with fail
            rw [← hX1]
            clear hX1
            refine HC.out.mono ?_
            rintro e w4 ⟨rfl, hb4⟩
            have HN4 := Lib.hid (HN.out w4 hb4)
            clear hb4 e0 e1 e2 e3 e4
            go_wp2_with fail
            go_roundw
            case rel => exact HN4.out
            case measure => simp [intOf]; omega
        · obtain rfl : j = l.length := by omega
          have q1 : decide ((l.length : Int) < (l.length : Int)) = false := decide_eq_false (by omega)
          have H1 := Lib.hid (HB.out.trans (G2.out.mono HB.out.size))
          have HE : Hid (X0 ++ ⟨#[41]⟩ = (⟨(40 :: (Dt.txts l ++ [41])).toArray⟩ : ByteArray)) := by
            show _ = _
            rw [HX0.out, str_app1, List.take_length]; simp
          go_wp2_with fail
          go_ret
          exact ⟨by rw [← HE.out]; rfl, H1.out⟩
    · have q0 : (k != 4) = true := by rw [bne_iff_ne]; exact hk
      have htx : (Dt.mk k t ms l p).txt = t.data.toList := by simp [Dt.txt, hk]
      have hte : (⟨(Dt.mk k t ms l p).txt.toArray⟩ : ByteArray) = t := by rw [htx]
      rw [hte]
      clear htx hte ht5 hk
      go_enter Tryd.func21, Tryd.ntmps21
      go_wp2_with fail
      go_ret
      exact ⟨rfl, HB.out⟩

theorem refis_any (k : Int) (t s : ByteArray) (mv lv : Value) (p : Int) (b1 b2 : Bool) (h1 : (k == 3) = b1) (h2 : (t.toList == s.toList) = b2) (hm : mv.oneCell' = true) (hl : lv.oneCell' = true) (w : World) :
    Calls Tryd.prog 27 #[.agg #[.int .i64 k, .string t, mv, lv, .int .i64 p], .string s] w (RetBool (b1 && b2) w) := by
  cases b1
  · go_enter Tryd.func27, Tryd.ntmps27
    go_wp2
    go_ret
    exact ⟨rfl, (Below.refl _ _).alloc (Nat.le_refl _) _⟩
  · go_enter Tryd.func27, Tryd.ntmps27
    go_wp2
    go_ret
    exact ⟨rfl, (Below.refl _ _).alloc (Nat.le_refl _) _⟩
end Go.Proofs.YtahdiknkcgnieaaDoor
namespace Go.Proofs.YtahdiknkcgnieaaDoor
open Go.RowKit Go.BigM
set_option linter.unusedVariables false
set_option linter.unusedSimpArgs false
/-- Bytes as cells. -/
def V (l : List UInt8) : Array Value := (l.map fun (c : UInt8) => Value.int .u8 (c.toNat : Int)).toArray
theorem V_size (l : List UInt8) : (V l).size = l.length := by simp [V]
theorem V_get (l : List UInt8) (j : Nat) (h : j < l.length) : (V l)[j]? = some (.int .u8 ((l[j]).toNat : Int)) := by
  unfold V
  rw [List.getElem?_toArray, List.getElem?_map, List.getElem?_eq_getElem h]; rfl
theorem V_set (l : List UInt8) (j : Nat) (c : UInt8) : (V l).setIfInBounds j (.int .u8 (c.toNat : Int)) = V (l.set j c) := by
  unfold V
  rw [List.setIfInBounds_toArray, ← List.map_set]
theorem made_V (n : Nat) : madeCells (Value.int .u8 0).cells n = V (List.replicate n 0) := by
  apply Array.ext
  · rw [size_madeCells, V_size, List.length_replicate]
  · intro i h1 h2
    simp [madeCells, V, Value.cells, Nat.mod_one]
theorem info5 : ∃ i, Tryd.prog.info? 5 = some i ∧ i.zero = some (.int .u8 0) ∧ i.size = 1 ∧ i.bytes = 1 := by
  have h : (Tryd.prog.info? 5).map (fun i => (i.zero, i.size, i.bytes)) = some (some (.int .u8 0), 1, 1) := by kernel_rfl
  cases hi : Tryd.prog.info? 5 with
  | none => rw [hi] at h; simp at h
  | some i => rw [hi] at h; simp at h; exact ⟨i, rfl, h.1, h.2.1, h.2.2⟩
theorem run_make_bytes (n : Nat) (hn : n ≤ 9000) (w : World) :
    (Instr.makeSlice 44 (.int .i64 n) (.int .i64 n)).run Tryd.prog w = .ok (.slice (some ⟨w.heap.size, 0, none⟩) n n) (w.alloc (.cells (V (List.replicate n 0)) 5)) := by
  obtain ⟨i, hi, hz, h1, h2⟩ := info5
  have := run_make (P := Tryd.prog) w 44 5 i (.int .u8 0) Tryd.underlying44 hi hz .i64 .i64 n n (by omega) (Int.le_refl _) (by rw [h2]; omega) (by omega)
  rw [h1, Nat.mul_one, made_V, Int.toNat_natCast] at this
  exact this
theorem str_nums (D : List UInt8) : strOfNums (D.map fun c => (c.toNat : Int)) = ⟨D.toArray⟩ := by
  unfold strOfNums
  rw [List.map_map]
  have : ((fun n : Int => UInt8.ofNat n.toNat) ∘ fun c : UInt8 => (c.toNat : Int)) = id := by
    funext c; simp
  rw [this, List.map_id]
theorem run_string_of (w : World) (h : Nat) (D : List UInt8) (k : w.heap[h]? = some (.cells (V D) 5 (0, 0))) (n : Nat) (hn : D.length = n) :
    (convert 44 9 (.slice (some ⟨h, 0, none⟩) n n)).run Tryd.prog w = .ok (.string ⟨D.toArray⟩) w := by
  have := run_convert_bytes_arg (P := Tryd.prog) w 44 5 Tryd.underlying44 Tryd.underlying5 h 0 n n (D.map fun c => (c.toNat : Int)) (by simpa using hn) (fun i hi => by
    rw [Nat.zero_add, cell_of_row w h i _ _ _ k]
    have hi' : i < D.length := by omega
    rw [V_get _ i hi']
    rw [List.getD_eq_getElem?_getD, List.getElem?_map, List.getElem?_eq_getElem hi']; rfl) 9 Tryd.underlying9
  rw [str_nums] at this
  exact this
set_option maxRecDepth 100000 in
theorem read_long (s : ByteArray) (w : World) (hs : 8000 < s.size) (hs2 : s.size ≤ 100000) : Calls Tryd.prog 16 #[.string s] w (RetRead w (.err 2 0)) := by
  have q1 : decide ((8000 : Int) < (s.size : Int)) = true := decide_eq_true (by omega)
  go_enter Tryd.func16, Tryd.ntmps16
  go_wp2_with fail
  refine wp_scope_fuel2 (fun _ _ _ _ => False) 5 (fun _ _ _ h => h.elim) (fun _ _ _ _ _ _ h => h.elim) (fun _ => ?_)
  go_wp2_with fail
  change bodyPost _ _ _ Exit.ret _ _
  go_ret3
  exact ⟨Below.refl _ _, rfl⟩
/-- The text of ReadLong. -/
def longT (k : Nat) : List UInt8 := List.replicate (k - 1) 32 ++ [120]
theorem gap_rep : ∀ (n : Nat), Gap (List.replicate n 32)
  | 0 => Gap.nil
  | n + 1 => by
    rw [List.replicate_succ]
    exact Gap.append (a := [32]) (Gap.blank (by simp)) (gap_rep n)
theorem leaf_x : Leaf [120] 3 ⟨#[120]⟩ := leaf_word (by decide) (by decide) (by kernel_rfl)
theorem rd_long (k : Nat) (hk : 1 ≤ k) : ∃ n, rd (longT k) n .next 0 ⟨0, false, []⟩ [] = some (.ok [.mk 3 ⟨#[120]⟩ [] [] ((k - 1 : Nat) : Int)]) := by
  refine rd_wrs (l := [.mk 3 ⟨#[120]⟩ [] [] ((k - 1 : Nat) : Int)]) ?_ (by simp [Dt.deps, Dt.dep])
  have h := Wrs.cons (p := 0) (l := []) (g := List.replicate (k - 1) 32) (t := [120]) (b := []) (gap_rep _) (.leaf (p := 0 + (List.replicate (k - 1) (32 : UInt8)).length) leaf_x) (.nil Gap.nil) NoSign.nil
  simp only [List.length_replicate, Nat.zero_add, List.append_nil] at h
  exact h
/-- The loop that writes blanks. -/
def LgInv (k : Nat) (w : World) (g : Nat) (iv : Value) (wr : World) : Prop :=
  ∃ j : Nat, j ≤ k ∧ iv = .int .i64 j ∧ Below w.heap.size w wr ∧ wr.heap[g]? = some (.cells (V (List.replicate j 32 ++ List.replicate (k - j) 0)) 5 (0, 0))
theorem lg_step {k : Nat} {w : World} {g j : Nat} {wr : World} (hj : j < k) (hg : w.heap.size ≤ g) (hb : Below w.heap.size w wr) (h : wr.heap[g]? = some (.cells (V (List.replicate j 32 ++ List.replicate (k - j) 0)) 5 (0, 0))) :
    LgInv k w g (.int .i64 ((j : Int) + 1)) (wr.setCell ⟨g, j, none⟩ (.int .u8 32)) := by
  refine ⟨j + 1, by omega, by go_num, hb.setCell (p := ⟨g, j, none⟩) hg _, ?_⟩
  have h1 := heap_setCell_same wr g j _ 5 (.int .u8 ((32 : UInt8).toNat : Int)) h
  rw [V_set] at h1
  have e : (List.replicate j (32 : UInt8) ++ List.replicate (k - j) 0).set j 32 = List.replicate (j + 1) 32 ++ List.replicate (k - (j + 1)) 0 := by
    rw [List.set_append_right _ _ (by simp), List.length_replicate, Nat.sub_self, show k - j = (k - (j + 1)) + 1 by omega, List.replicate_succ (n := k - (j + 1)), List.set_cons_zero, List.replicate_succ' (n := j), List.append_assoc]
    rfl
  rw [e] at h1
  exact h1
theorem lg_end {k : Nat} {g : Nat} {wr : World} (hk : 1 ≤ k) (h : wr.heap[g]? = some (.cells (V (List.replicate k 32 ++ List.replicate (k - k) 0)) 5 (0, 0))) :
    (wr.setCell ⟨g, k - 1, none⟩ (.int .u8 120)).heap[g]? = some (.cells (V (longT k)) 5 (0, 0)) := by
  have h1 := heap_setCell_same wr g (k - 1) _ 5 (.int .u8 ((120 : UInt8).toNat : Int)) h
  rw [V_set] at h1
  have e : (List.replicate k (32 : UInt8) ++ List.replicate (k - k) 0).set (k - 1) 120 = longT k := by
    obtain ⟨m, rfl⟩ : ∃ m, k = m + 1 := ⟨k - 1, by omega⟩
    rw [Nat.sub_self, List.replicate_zero, List.append_nil, Nat.add_sub_cancel, List.replicate_succ', List.set_append_right _ _ (by simp)]
    simp [longT]
  rw [e] at h1
  exact h1
theorem longT_len (k : Nat) (hk : 1 ≤ k) : (longT k).length = k := by simp [longT]; omega
set_option maxHeartbeats 4000000 in
set_option maxRecDepth 100000 in
theorem long_walk (a : Int) (w : World) (ha : I64 a) : Calls Tryd.prog 8 #[.int .i64 a] w (RetBool true w) := by
  have BB := Lib.hid (Below.refl w.heap.size w)
  obtain ⟨q, hq⟩ : ∃ q : Nat, a % 20 = q := ⟨(a % 20).toNat, by omega⟩
  have hq20 : q < 20 := by omega
  have FW := Lib.hid (fun w => (within_any a 20 w ha.1 ha.2 (by omega) (by omega)))
  rw [hq] at FW
  obtain ⟨k, hk⟩ : ∃ k, k = 7990 + q := ⟨_, rfl⟩
  have hkq : ((7990 : Int) + (q : Int)) = (k : Int) := by omega
  have hk1 : 7990 ≤ k := by omega
  have hk2 : k < 8010 := by omega
  clear hq ha hk
  go_enter Tryd.func8, Tryd.ntmps8
  go_wp2_with (go_at_call 13; refine (known_any _).mono ?_; rintro e w1 ⟨rfl, hb⟩; replace BB := Lib.hid (BB.out.trans (hb.mono BB.out.size)); clear hb)
  refine (FW.out _).mono ?_
  rintro e w2 ⟨rfl, rfl⟩
  have hmk := run_make_bytes k (by omega)
  go_wp2_with fail
  have hw0 : LgInv k w1 w1.heap.size (.int .i64 0) (w1.alloc (.cells (V (List.replicate k 0)) 5)) := ⟨0, Nat.zero_le _, rfl, (Below.refl _ _).alloc (Nat.le_refl _) _, by simpa using alloc_at w1 (.cells (V (List.replicate k 0)) 5)⟩
  have HW0 := Lib.hid hw0
  clear hw0 hmk
  generalize w1.alloc (.cells (V (List.replicate k 0)) 5) = W0 at HW0 ⊢
  go_loopw [5] (fun iv wr => LgInv k w1 w1.heap.size iv wr) (fun iv _ => k - (intOf iv).toNat)
  case atStart => exact HW0.out
  case round =>
    obtain ⟨j, hj, rfl, hb, hg⟩ := hrel
    have HB := Lib.hid hb
    have HG := Lib.hid hg
    clear hb hg HW0
    by_cases hlt : j < k
    · have q1 : decide ((j : Int) < (k : Int)) = true := decide_eq_true (by omega)
      obtain ⟨x, hc⟩ : ∃ x, wr.cell? ⟨w1.heap.size, j, none⟩ = some x := by
        rw [Lib.cell_of_heap HG.out, V_get _ j (by simp; omega)]; exact ⟨_, rfl⟩
      have hf := frozen_of_row wr w1.heap.size j _ 5 HG.out
      go_wp2_with fail
      go_roundw
      case rel => exact lg_step hlt (Nat.le_refl _) HB.out HG.out
      case measure => simp [intOf]; omega
    · obtain rfl : j = k := by omega
      have q1 : decide ((j : Int) < (j : Int)) = false := decide_eq_false (by omega)
      have e1 : ((j : Int) - 1) = ((j - 1 : Nat) : Int) := by omega
      obtain ⟨x, hc⟩ : ∃ x, wr.cell? ⟨w1.heap.size, j - 1, none⟩ = some x := by
        rw [Lib.cell_of_heap HG.out, V_get _ (j - 1) (by simp; omega)]; exact ⟨_, rfl⟩
      have hf := frozen_of_row wr w1.heap.size (j - 1) _ 5 HG.out
      have hE := lg_end (by omega) HG.out
      have hB2 : Below w1.heap.size w1 (wr.setCell ⟨w1.heap.size, j - 1, none⟩ (.int .u8 120)) := HB.out.setCell (p := ⟨w1.heap.size, j - 1, none⟩) (Nat.le_refl _) _
      have HCV := Lib.hid (run_string_of _ _ _ hE j (longT_len j (by omega)))
      have HB2 := Lib.hid (BB.out.trans (hB2.mono BB.out.size))
      obtain ⟨i, hi⟩ : ∃ i, i = j - 1 := ⟨_, rfl⟩
      have hij : i + 1 = j := by omega
      rw [← hi] at e1 hc hf HCV HB2
      clear hE hB2 HG HB hi
      go_upto_region 10 with fail
      have hcv := HCV.out
      generalize wr.setCell ⟨w1.heap.size, i, none⟩ (.int .u8 120) = W9 at hcv HB2 HCV ⊢
      clear HCV
      have hsz : (⟨(longT j).toArray⟩ : ByteArray).size = j := by rw [Lib.size_eq]; simpa using longT_len j (by omega)
      by_cases hl : 8000 < j
      · have q2 : decide ((8000 : Int) < (j : Int)) = true := decide_eq_true (by omega)
        have FR := Lib.hid (read_long ⟨(longT j).toArray⟩ W9 (by omega) (by omega))
        go_wp2_with fail
        refine FR.out.mono ?_
        rintro e w3 ⟨hb3, rfl⟩
        replace HB2 := Lib.hid (HB2.out.trans (hb3.mono HB2.out.size))
        clear hb3 hcv
        go_wp2_with fail
        go_ret
        exact ⟨rfl, HB2.out⟩
      · have q2 : decide ((8000 : Int) < (j : Int)) = false := decide_eq_false (by omega)
        obtain ⟨n, hn⟩ := rd_long j (by omega)
        have FR := Lib.hid (read_any ⟨(longT j).toArray⟩ W9 (by omega) n _ (by simpa using hn))
        go_wp2_with fail
        refine FR.out.mono ?_
        rintro e w3 ⟨hb3, v, rfl, hv⟩
        replace HB2 := Lib.hid (HB2.out.trans (hb3.mono HB2.out.size))
        obtain ⟨g, o, cap, rfl⟩ := hv.some (by simp)
        obtain ⟨k5, t5, mv5, lv5, p5, ha, a0, a1, a2, a3, a4⟩ := hv.at 0 (by simp)
        have ha' : Dt.At _ w3 (.mk 3 ⟨#[120]⟩ [] [] ((j - 1 : Nat) : Int)) _ := ha
        rw [At_mk] at ha'
        obtain ⟨mv6, lv6, e6, _, _⟩ := ha'
        simp at e6
        obtain ⟨_, _, _, _, rfl⟩ := e6
        simp only [Nat.zero_mul, Nat.add_zero] at a4
        have e7 : ((j - 1 : Nat) : Int) = (i : Int) := by omega
        rw [e7] at a4
        clear ha a0 a1 a2 a3 hv hb3 hn hcv
        simp only [List.length_cons, List.length_nil]
        go_wp2_with fail
        go_ret
        exact ⟨rfl, HB2.out⟩
end Go.Proofs.YtahdiknkcgnieaaDoor
namespace Go.Proofs.YtahdiknkcgnieaaDoor
open Go.RowKit Go.BigM
set_option linter.unusedVariables false
set_option linter.unusedSimpArgs false
/-- A word that is told by itself. -/
def okW (k : Int) (u : ByteArray) : Prop := (∀ c ∈ u.data.toList, c ≠ 32) ∧ Leaf u.data.toList k u
theorem okW_word {k : Int} {u : ByteArray} (h : u.data.toList.all sset.contains = true) (h0 : u.data.toList ≠ []) (hw : (wordOf u.data.toList).map (fun x => (x.1, x.2.1.data.toList, x.2.2)) = some (k, u.data.toList, u.data.toList.length)) (h32 : u.data.toList.contains 32 = false) : okW k u := by
  refine ⟨fun c hc e => ?_, leaf_word h h0 ?_⟩
  · subst e
    have : u.data.toList.contains 32 = true := by simpa using hc
    rw [this] at h32; cases h32
  · cases hx : wordOf u.data.toList with
    | none => rw [hx] at hw; cases hw
    | some x =>
      rw [hx] at hw
      simp only [Option.map_some, Option.some.injEq, Prod.mk.injEq] at hw
      obtain ⟨a, b, c⟩ := x
      obtain ⟨rfl, h2, rfl⟩ := hw
      have : b = u := by
        cases b; cases u
        congr 1
        exact Array.toList_inj.1 h2
      rw [this]
theorem okW_getD {k : Int} {l : List ByteArray} (h : ∀ u ∈ l, okW k u) (i : Nat) (hi : i < l.length) : okW k (l.getD i ⟨#[]⟩) := by
  rw [List.getD_eq_getElem?_getD, List.getElem?_eq_getElem hi]
  exact h _ (List.getElem_mem _)
theorem okW_ints : ∀ u ∈ tblI, okW 1 u := by
  intro u hu
  simp only [tblI, List.mem_cons, List.not_mem_nil, or_false] at hu
  rcases hu with rfl | rfl | rfl | rfl | rfl <;> exact okW_word (by decide) (by decide) (by decide +kernel) (by decide)
theorem okW_bools : ∀ u ∈ tblB, okW 2 u := by
  intro u hu
  simp only [tblB, List.mem_cons, List.not_mem_nil, or_false] at hu
  rcases hu with rfl | rfl
  · exact ⟨by decide, leaf_true⟩
  · exact ⟨by decide, leaf_false⟩
theorem okW_syms : ∀ u ∈ tblS, okW 3 u := by
  intro u hu
  simp only [tblS, List.mem_cons, List.not_mem_nil, or_false] at hu
  rcases hu with rfl | rfl | rfl | rfl | rfl | rfl | rfl | rfl | rfl | rfl | rfl <;> exact okW_word (by decide) (by decide) (by decide +kernel) (by decide)
mutual
theorem make_rdb : ∀ (r : Rw), Rdb r.make
  | .mk k n l => by
    rw [Rw.make]
    split
    · exact .leaf (by decide) (okW_getD okW_ints _ (by show _ < 5; omega)).1 (okW_getD okW_ints _ (by show _ < 5; omega)).2
    · split
      · exact .leaf (by decide) (okW_getD okW_bools _ (by show _ < 2; omega)).1 (okW_getD okW_bools _ (by show _ < 2; omega)).2
      · split
        · exact .leaf (by decide) (okW_getD okW_syms _ (by show _ < 11; omega)).1 (okW_getD okW_syms _ (by show _ < 11; omega)).2
        · exact .list (makes_rdb l)
theorem makes_rdb : ∀ (l : List Rw), ∀ d ∈ Rw.makes l, Rdb d
  | [], d, h => by simp [Rw.makes] at h
  | r :: l, d, h => by
    simp only [Rw.makes, List.mem_cons] at h
    rcases h with rfl | h
    · exact make_rdb r
    · exact makes_rdb l d h
end
mutual
theorem make_dep : ∀ (r : Rw), r.make.dep ≤ r.dp
  | .mk k n l => by
    have h1 := makes_dep l
    rw [Rw.make]
    split
    · simp [Dt.dep]
    · split
      · simp [Dt.dep]
      · split
        · simp [Dt.dep]
        · simp only [Dt.dep, Rw.dp, if_true]; omega
theorem makes_dep : ∀ (l : List Rw), Dt.deps (Rw.makes l) ≤ Rw.dps l
  | [] => by simp [Rw.makes, Dt.deps]
  | r :: l => by
    have h1 := make_dep r
    have h2 := makes_dep l
    simp only [Rw.makes, Dt.deps, Rw.dps]
    omega
end
mutual
theorem plc_dep : ∀ (d : Dt) (p : Nat), (d.plc p).dep = d.dep
  | .mk k t ms l _, p => by simp only [Dt.plc, Dt.dep, plcs_dep l]
theorem plcs_dep : ∀ (l : List Dt) (p : Nat), Dt.deps (Dt.plcs p l) = Dt.deps l
  | [], p => rfl
  | d :: l, p => by simp only [Dt.plcs, Dt.deps, plc_dep d, plcs_dep l]
end
theorem plcs_length : ∀ (l : List Dt) (p : Nat), (Dt.plcs p l).length = l.length
  | [], p => rfl
  | d :: l, p => by simp [Dt.plcs, plcs_length l]
theorem txte_append : ∀ (l m : List Dt), Dt.txte (l ++ m) = Dt.txte l ++ Dt.txte m
  | [], m => rfl
  | d :: l, m => by simp [Dt.txte, txte_append l m]
theorem makes_txte : ∀ (l : List Rw), (Dt.txte (Rw.makes l)).length ≤ 41 * Rw.cnts l
  | [] => by simp [Rw.makes, Dt.txte]
  | r :: l => by
    have h1 := make_txt r
    have h2 := makes_txte l
    simp only [Rw.makes, Dt.txte, Rw.cnts, List.length_cons, List.length_append]
    omega
theorem txte_take (l : List Dt) (j : Nat) (h : j < l.length) : Dt.txte (l.take (j + 1)) = Dt.txte (l.take j) ++ (l[j].txt ++ [32]) := by
  rw [List.take_succ_eq_append_getElem h, txte_append]; simp [Dt.txte]
theorem txte_take_le (l : List Dt) (j : Nat) : (Dt.txte (l.take j)).length ≤ (Dt.txte l).length := by
  have : Dt.txte l = Dt.txte (l.take j) ++ Dt.txte (l.drop j) := by rw [← txte_append, List.take_append_drop]
  rw [this]; simp
/-- The loop of text. -/
def TeInv (l : List Dt) (w : World) (sv iv : Value) (wr : World) : Prop :=
  ∃ j : Nat, j ≤ l.length ∧ iv = .int .i64 j ∧ sv = .string ⟨(Dt.txte (l.take j)).toArray⟩ ∧ Below w.heap.size w wr
set_option maxHeartbeats 2000000 in
set_option maxRecDepth 100000 in
theorem text_any (l : List Dt) (hs : Dt.sizes l ≤ 1000000) (ht : (Dt.txte l).length ≤ 5000) (S : Nat → Prop) (ao : Option Addr) (cap : Nat) (w : World) (hl : LAt S w (.slice ao l.length cap) l) :
    Calls Tryd.prog 25 #[.slice ao l.length cap] w (RetStr ⟨(Dt.txte l).toArray⟩ w) := by
  have HL := Lib.hid hl
  have hln := length_sizes l
  clear hl
  go_enter Tryd.func25, Tryd.ntmps25
  go_wp2_with fail
  go_loopw [3, 4] (fun sv iv wr => TeInv l w sv iv wr) (fun _ iv _ => l.length - (intOf iv).toNat)
  case atStart => exact ⟨0, Nat.zero_le _, rfl, by simp [Dt.txte], Below.refl _ _⟩
  case round =>
    obtain ⟨j, hj, rfl, rfl, hb⟩ := hrel
    have G2 := Lib.hid hb
    have G3 := Lib.hid (HL.out.keeps (Keeps.of_below hb))
    clear hb
    obtain ⟨X, hX⟩ : ∃ X : ByteArray, X = ⟨(Dt.txte (l.take j)).toArray⟩ := ⟨_, rfl⟩
    have hle := txte_take_le l j
    have hxs : X.size = (Dt.txte (l.take j)).length := by rw [hX, Lib.size_eq]
    rw [← hX]
    have HX := Lib.hid hX
    clear hX
    by_cases hlt : j < l.length
    · have q1 : decide ((j : Int) < (l.length : Int)) = true := decide_eq_true (by omega)
      obtain ⟨g, o, k', t', mv', lv', p', rfl, hS, -, hat, e0, e1, e2, e3, e4, o1, o2⟩ := G3.out.get j hlt
      have hsj := size_get l j hlt
      have htk := txte_take l j hlt
      have hl3 := txte_take_le l (j + 1)
      rw [htk] at hl3
      simp only [List.length_append, List.length_cons, List.length_nil] at hl3
      have HC0 := reftext_any 1000000 (Nat.le_refl _) l[j] (by omega) (by omega) S _ wr hat
      obtain ⟨tx, htx⟩ : ∃ tx : ByteArray, tx = ⟨l[j].txt.toArray⟩ := ⟨_, rfl⟩
      have htl : tx.size = l[j].txt.length := by rw [htx]; simp only [ByteArray.size, List.size_toArray]
      rw [← htx] at HC0
      have HC := Lib.hid HC0
      have hb1 : X.size + tx.size + 1 ≤ 5000 := by omega
      have hb2 : tx.size ≤ 5000 := by omega
      have hb3 : X.size ≤ 5000 := by omega
      have HN := Lib.hid (fun (w4 : World) (hb4 : Below wr.heap.size wr w4) => show TeInv l w (.string (X ++ tx ++ ⟨#[32]⟩)) (.int .i64 ((j : Int) + 1)) w4 from
        ⟨j + 1, by omega, by go_num, by rw [HX.out, htx, str_app (Dt.txte (l.take j)) l[j].txt, str_app1, htk]; simp, G2.out.trans (hb4.mono G2.out.size)⟩)
      clear hat hS HC0 htx htl hle hl3 hxs htk hsj
      go_wp2_with fail
      refine HC.out.mono ?_
      rintro e w4 ⟨rfl, hb4⟩
      have HN4 := Lib.hid (HN.out w4 hb4)
      clear hb4 e0 e1 e2 e3 e4
      go_wp2_with fail
      go_roundw
      case rel => exact HN4.out
      case measure => simp [intOf]; omega
    · obtain rfl : j = l.length := by omega
      have q1 : decide ((l.length : Int) < (l.length : Int)) = false := decide_eq_false (by omega)
      have HE : Hid (X = (⟨(Dt.txte l).toArray⟩ : ByteArray)) := by
        show _ = _
        rw [HX.out, List.take_length]
      go_wp2_with fail
      go_ret
      exact ⟨by rw [← HE.out]; rfl, G2.out⟩
end Go.Proofs.YtahdiknkcgnieaaDoor
namespace Go.Proofs.YtahdiknkcgnieaaDoor
open Go.RowKit
set_option linter.unusedVariables false
set_option linter.unusedSimpArgs false
def EInv (ms ns : List Int) (w : World) (iv : Value) (wr : World) : Prop :=
  ∃ j m : Nat, j ≤ ms.length ∧ iv = .int .i64 j ∧ ms.take j = ns.take j ∧ wr = w.drewN m

def FInv (l m : List Dt) (w : World) (iv : Value) (wr : World) : Prop :=
  ∃ j : Nat, j ≤ l.length ∧ iv = .int .i64 j ∧ (∀ i (h1 : i < l.length) (h2 : i < m.length), i < j → Dt.same l[i] m[i] = true) ∧ Below w.heap.size w wr

theorem bcell40 {W W1 : World} (hb : Below W.heap.size W W1) : ∀ b o, b < W.heap.size → W1.cell? ⟨b, o, none⟩ = W.cell? ⟨b, o, none⟩ := fun b o h => hb.cell (p := ⟨b, o, none⟩) h
theorem MAt.form {S : Nat → Prop} {w : World} {mv : Value} {ms : List Int} (h : MAt S w mv ms) : ∃ ao cap, mv = .slice ao ms.length cap := by
  rcases h with ⟨rfl, rfl⟩ | ⟨g, o, cap, arr, fz, rfl, _⟩
  · exact ⟨none, 0, rfl⟩
  · exact ⟨_, _, rfl⟩
theorem MAt.get {S : Nat → Prop} {w : World} {ao : Option Addr} {n cap : Nat} {ms : List Int} (h : MAt S w (.slice ao n cap) ms) (j : Nat) (hj : j < ms.length) :
    ∃ g o, ao = some ⟨g, o, none⟩ ∧ w.cell? ⟨g, o + j, none⟩ = some (.int .i64 ms[j]) := by
  rcases h with ⟨_, rfl⟩ | ⟨g, o, cap', arr, fz, e, hS, hg, hd⟩
  · simp at hj
  · injection e with e1 e2 e3
    subst e1
    exact ⟨g, o, rfl, by rw [Lib.cell_of_heap hg]; exact hd.1 j hj⟩
theorem take_ext (ms ns : List Int) (j : Nat) (h : ms.take j = ns.take j) (h1 : j < ms.length) (h2 : j < ns.length) (he : ms[j] = ns[j]) : ms.take (j + 1) = ns.take (j + 1) := by
  rw [List.take_succ_eq_append_getElem h1, List.take_succ_eq_append_getElem h2, h, he]
/-- The loop of Equal. -/
theorem same_mk (k k' : Int) (t t' : ByteArray) (ms ms' : List Int) (l l' : List Dt) (p p' : Int) :
    Dt.same (.mk k t ms l p) (.mk k' t' ms' l' p') = ((k == k') && ((t.toList == t'.toList) && ((ms == ms') && Dt.sames l l'))) := by simp [Dt.same]



set_option maxHeartbeats 2000000 in
theorem refmarks_any (S T : Nat → Prop) (mv nv : Value) (ms ns : List Int) (w : World) (h1 : MAt S w mv ms) (h2 : MAt T w nv ns) :
    Calls Tryd.prog 39 #[mv, nv] w (RetBool (ms == ns) w) := by
  have hl := h1.short
  obtain ⟨ao, cap, rfl⟩ := h1.form
  obtain ⟨bo, cap', rfl⟩ := h2.form
  have H1 := Lib.hid h1
  have H2 := Lib.hid h2
  clear h1 h2
  by_cases hlen : ms.length = ns.length
  · have q0 : ((ms.length : Int) != (ns.length : Int)) = false := by simp [hlen]
    have HLN := Lib.hid hlen
    clear hlen
    go_enter Tryd.func39, Tryd.ntmps39
    go_wp2_with fail
    go_loopw [5] (fun iv wr => EInv ms ns w iv wr) (fun iv _ => ms.length - (intOf iv).toNat)
    case atStart => exact ⟨0, 0, Nat.zero_le _, rfl, rfl, rfl⟩
    case round =>
      obtain ⟨j, m, hj, rfl, ht, rfl⟩ := hrel
      have HT := Lib.hid ht
      clear ht
      by_cases hlt : j < ms.length
      · have hlt2 : j < ns.length := by have := HLN.out; omega
        obtain ⟨g, o, rfl, e1⟩ := H1.out.get j hlt
        obtain ⟨g2, o2, rfl, e2⟩ := H2.out.get j hlt2
        have hsw : decide ((j : Int) < (ns.length : Int)) = true := decide_eq_true (by omega)
        by_cases he : ms[j] = ns[j]
        · have HN := Lib.hid (take_ext ms ns j HT.out hlt hlt2 he)
          rw [he] at e1
          have q1 : (ns[j] != ns[j]) = false := by simp
          clear he
          go_wp2_with fail
          go_quiet (fail)
          go_wp2_with fail
          go_roundw
          case rel => exact ⟨j + 1, m + nq, by omega, by go_num, HN.out, rfl⟩
          case measure => simp [intOf]; omega
        · have q1 : (ms[j] != ns[j]) = true := by rw [bne_iff_ne]; exact he
          have hr : (ms == ns) = false := by rw [beq_eq_false_iff_ne]; intro e; subst e; exact he rfl
          have HR := Lib.hid hr
          clear he hr
          go_wp2_with fail
          go_quiet (fail)
          go_wp2_with fail
          go_ret
          exact ⟨by rw [HR.out]; rfl, (Below.refl _ _).trans ⟨rfl, rfl, rfl, Nat.le_refl _, fun _ _ => rfl⟩⟩
      · obtain rfl : j = ms.length := by omega
        have hr : (ms == ns) = true := by
          have h := HT.out
          rw [List.take_length, HLN.out, List.take_length] at h
          rw [beq_iff_eq]; exact h
        have HR := Lib.hid hr
        clear hr
        go_wp2_with fail
        go_ret
        exact ⟨by rw [HR.out]; rfl, (Below.refl _ _).trans ⟨rfl, rfl, rfl, Nat.le_refl _, fun _ _ => rfl⟩⟩
  · have q0 : ((ms.length : Int) != (ns.length : Int)) = true := by rw [bne_iff_ne]; omega
    have hr : (ms == ns) = false := by rw [beq_eq_false_iff_ne]; intro e; subst e; exact hlen rfl
    rw [hr]
    clear hlen hr
    go_enter Tryd.func39, Tryd.ntmps39
    go_wp2_with fail
    go_ret
    exact ⟨rfl, Below.refl _ _⟩


theorem second_at (w : World) (a b : Array Value) : ((w.alloc (.cells a 40)).alloc (.cells b 40)).heap[w.heap.size + 1]? = some (.cells b 40 (0, 0)) := by
  have h := alloc_at (w.alloc (.cells a 40)) (.cells b 40)
  have e : (w.alloc (.cells a 40)).heap.size = w.heap.size + 1 := by simp
  rw [e] at h; exact h
def RefOk (n : Nat) : Prop := ∀ (d e : Dt), d.size ≤ n → ∀ (S T : Nat → Prop) (cs ds : Array Value) (w : World), Dt.At S w d cs → Dt.At T w e ds →
    Calls Tryd.prog 22 #[.agg cs, .agg ds] w (RetBool (d.same e) w)

set_option maxHeartbeats 4000000 in
theorem refsame_any (n : Nat) : n ≤ 1000000000 → RefOk n := by
  induction n with
  | zero => intro _ d e hd; cases d; simp [Dt.size] at hd
  | succ n ih0 =>
    intro hn d e hd S T cs ds w hat hat2
    have IH := Lib.hid (ih0 (by omega))
    obtain ⟨k, t, ms, l, p⟩ := d
    obtain ⟨k', t', ms', l', p'⟩ := e
    rw [At_mk] at hat hat2
    obtain ⟨mv, lv, rfl, hm, hl⟩ := hat
    obtain ⟨mv', lv', rfl, hm', hl'⟩ := hat2
    have hsz : Dt.sizes l ≤ n := by simp only [Dt.size] at hd; omega
    have hll := length_sizes l
    rw [same_mk]
    have o1 := hm.one
    have o2 := hl.one
    have o3 := hm'.one
    have o4 := hl'.one
    have HB := Lib.hid (((Below.refl w.heap.size w).alloc (Nat.le_refl _) (.cells #[.int .i64 k, .string t, mv, lv, .int .i64 p] 40)).alloc (by simp) (.cells #[.int .i64 k', .string t', mv', lv', .int .i64 p'] 40))
    have B0 := Keeps.of_below (S := S) HB.out
    have B1 := Keeps.of_below (S := T) HB.out
    have M1 := Lib.hid (hm.keeps B0)
    have M2 := Lib.hid (hm'.keeps B1)
    have L1 := Lib.hid (hl.keeps B0)
    have L2 := Lib.hid (hl'.keeps B1)
    obtain ⟨ao, cap, rfl⟩ := hl.form
    obtain ⟨bo, cap', rfl⟩ := hl'.form
    clear ih0 hm hl hm' hl' hd B0 B1
    by_cases b1 : k = k'
    · subst b1
      rw [beq_self_eq_true, Bool.true_and]
      by_cases b2 : (t.toList == t'.toList) = true
      · have c2 : (t.toList != t'.toList) = false := by rw [bne, b2]; rfl
        have d2 : t.toList = t'.toList := beq_iff_eq.1 b2
        rw [b2, Bool.true_and]
        have HE := fun w m1 m2 => refmarks_any S T mv mv' ms ms' w m1 m2
        by_cases b3 : (ms == ms') = true
        · rw [b3] at HE ⊢
          rw [Bool.true_and]
          have HE := Lib.hid HE
          clear b3 b2
          by_cases b4 : l.length = l'.length
          · have c4 : ((l.length : Int) != (l'.length : Int)) = false := by simp [b4]
            have HLN := Lib.hid b4
            clear b4
            go_enter Tryd.func22, Tryd.ntmps22
            go_wp2_with fail
            refine (HE.out _ M1.out M2.out).mono ?_
            rintro e w1 ⟨rfl, hb⟩
            have K1 := Lib.hid (HB.out.trans (hb.mono HB.out.size))
            have K2 := Lib.hid (L1.out.keeps (Keeps.of_below hb))
            have K3 := Lib.hid (L2.out.keeps (Keeps.of_below hb))
            have hsw := hb.size
            have ez : ((w.alloc (.cells #[.int .i64 k, .string t, mv, .slice ao l.length cap, .int .i64 p] 40)).alloc (.cells #[.int .i64 k, .string t', mv', .slice bo l'.length cap', .int .i64 p'] 40)).heap.size = w.heap.size + 1 + 1 := by simp
            rw [ez] at hsw
            have cA : w1.cell? ⟨w.heap.size, 3, none⟩ = some (.slice ao l.length cap) := by
              rw [hb.cell (p := ⟨w.heap.size, 3, none⟩) (by show w.heap.size < _; rw [ez]; omega), Lib.cell_of_heap ((Lib.alloc_old _ _ _ (by simp)).trans (alloc_at w _))]; rfl
            have cB : w1.cell? ⟨w.heap.size + 1, 3, none⟩ = some (.slice bo l'.length cap') := by
              rw [hb.cell (p := ⟨w.heap.size + 1, 3, none⟩) (by show w.heap.size + 1 < _; rw [ez]; omega), Lib.cell_of_heap (second_at w _ _)]; rfl
            have CA := Lib.hid cA
            have CB := Lib.hid cB
            clear hb HE M1 M2 L1 L2 HB
            go_wp2_with fail
            clear c2 c4 cA cB
            go_loopw [5] (fun iv wr => FInv l l' w1 iv wr) (fun iv _ => l.length - (intOf iv).toNat)
            case atStart => exact ⟨0, Nat.zero_le _, rfl, fun i _ _ h => absurd h (by omega), Below.refl _ _⟩
            case round =>
              obtain ⟨j, hj, rfl, hsm, hbw⟩ := hrel
              have HM := Lib.hid hsm
              have HBw := Lib.hid hbw
              have hsr := hbw.size
              have cA := (hbw.cell (p := ⟨w.heap.size, 3, none⟩) (by show w.heap.size < _; omega)).trans CA.out
              have cB := (hbw.cell (p := ⟨w.heap.size + 1, 3, none⟩) (by show w.heap.size + 1 < _; omega)).trans CB.out
              clear hsm hbw
              by_cases hlt : j < l.length
              · have q1 : decide ((j : Int) < (l.length : Int)) = true := decide_eq_true (by omega)
                have hlt2 : j < l'.length := by have := HLN.out; omega
                obtain ⟨g, o, k5, t5, mv5, lv5, p5, rfl, hS, -, hat, e0, e1, e2, e3, e4, o5, o6⟩ := (K2.out.keeps (Keeps.of_below HBw.out)).get j hlt
                obtain ⟨g2, o2', k6, t6, mv6, lv6, p6, rfl, hS2, -, hat2, f0, f1, f2, f3, f4, o7, o8⟩ := (K3.out.keeps (Keeps.of_below HBw.out)).get j hlt2
                have hg : g < wr.heap.size := World.block_lt_of_cell? wr _ e0
                have hg2 : g2 < wr.heap.size := World.block_lt_of_cell? wr _ f0
                have hsj := size_get l j hlt
                have HX' := IH.out l[j] l'[j] (by omega) S T _ _ wr.drew (Dt.At.keeps (Keeps.of_below (Below.refl _ _).drew) _ _ hat) (Dt.At.keeps (Keeps.of_below (Below.refl _ _).drew) _ _ hat2)
                obtain ⟨r, hr⟩ : ∃ r, Dt.same l[j] l'[j] = r := ⟨_, rfl⟩
                rw [hr] at HX'
                have HX := Lib.hid HX'
                have HRR := Lib.hid hr
                have E0 := Lib.hid e0
                have E1 := Lib.hid e1
                have E2 := Lib.hid e2
                have E3 := Lib.hid e3
                have E4 := Lib.hid e4
                have F0 := Lib.hid f0
                have F1 := Lib.hid f1
                have F2 := Lib.hid f2
                have F3 := Lib.hid f3
                have F4 := Lib.hid f4
                clear HX' hr hat hat2 hS hS2 e0 e1 e2 e3 e4 f0 f1 f2 f3 f4 IH
                go_upto_region 6 with fail
                have DA := Lib.hid cA
                have DB := Lib.hid cB
                clear cA cB q1
                refine wp_region_noPanic ?_
                refine wp_region_held_drew (S := Below wr.heap.size wr) (by kernel_rfl) ((Below.refl _ _).drew) (fun hHeld => ?_)
                refine wpAnyH_take (i := 0) (v := Value.pointer (some ⟨w.heap.size, 3, none⟩)) rfl (by kernel_rfl) (by kernel_rfl) (by kernel_rfl) (fun _ _ _ h => h) (Or.inl ⟨rfl, fun w' hw' => ?_⟩) hHeld ?_
                · go_simp
                simp only [List.getElem_toArray, List.getElem_cons_succ, List.getElem_cons_zero, Act.put, List.setIfInBounds_toArray, List.set_cons_zero, List.set_cons_succ]
                refine wpAnyH_take (i := 1) (v := Value.slice (some ⟨g, o, none⟩) l.length cap) rfl (by kernel_rfl) (by kernel_rfl) (by kernel_rfl) (fun _ _ _ h => h) (Or.inl ⟨rfl, fun w' hw' => ?_⟩) hHeld ?_
                · have c := (hw'.cell (p := ⟨w.heap.size, 3, none⟩) (by show w.heap.size < _; omega)).trans DA.out; go_simp
                simp only [List.getElem_toArray, List.getElem_cons_succ, List.getElem_cons_zero, Act.put, List.setIfInBounds_toArray, List.set_cons_zero, List.set_cons_succ]
                refine wpAnyH_take (i := 2) (v := Value.int .i64 j) rfl (by kernel_rfl) (by kernel_rfl) (by kernel_rfl) (fun _ _ _ h => h) (Or.inl ⟨rfl, fun w' hw' => ?_⟩) hHeld ?_
                · go_simp
                simp only [List.getElem_toArray, List.getElem_cons_succ, List.getElem_cons_zero, Act.put, List.setIfInBounds_toArray, List.set_cons_zero, List.set_cons_succ]
                refine wpAnyH_take (i := 3) (v := Value.pointer (some ⟨g, o + j * 5, none⟩)) rfl (by kernel_rfl) (by kernel_rfl) (by kernel_rfl) (fun _ _ _ h => h) (Or.inl ⟨rfl, fun w' hw' => ?_⟩) hHeld ?_
                · go_simp
                simp only [List.getElem_toArray, List.getElem_cons_succ, List.getElem_cons_zero, Act.put, List.setIfInBounds_toArray, List.set_cons_zero, List.set_cons_succ]
                refine wpAnyH_take (i := 4) (v := Value.agg #[.int .i64 k5, .string t5, mv5, lv5, .int .i64 p5]) rfl (by kernel_rfl) (by kernel_rfl) (by kernel_rfl) (fun _ _ _ h => h) (Or.inl ⟨rfl, fun w' hw' => ?_⟩) hHeld ?_
                · have qE0 := (hw'.cell (p := ⟨g, o + j * 5, none⟩) (by show g < wr.heap.size; omega)).trans E0.out; have qE1 := (hw'.cell (p := ⟨g, o + j * 5 + 1, none⟩) (by show g < wr.heap.size; omega)).trans E1.out; have qE2 := (hw'.cell (p := ⟨g, o + j * 5 + 2, none⟩) (by show g < wr.heap.size; omega)).trans E2.out; have qE3 := (hw'.cell (p := ⟨g, o + j * 5 + 3, none⟩) (by show g < wr.heap.size; omega)).trans E3.out; have qE4 := (hw'.cell (p := ⟨g, o + j * 5 + 4, none⟩) (by show g < wr.heap.size; omega)).trans E4.out; go_simp
                simp only [List.getElem_toArray, List.getElem_cons_succ, List.getElem_cons_zero, Act.put, List.setIfInBounds_toArray, List.set_cons_zero, List.set_cons_succ]
                refine wpAnyH_take (i := 5) (v := Value.pointer (some ⟨w.heap.size + 1, 3, none⟩)) rfl (by kernel_rfl) (by kernel_rfl) (by kernel_rfl) (fun _ _ _ h => h) (Or.inl ⟨rfl, fun w' hw' => ?_⟩) hHeld ?_
                · go_simp
                simp only [List.getElem_toArray, List.getElem_cons_succ, List.getElem_cons_zero, Act.put, List.setIfInBounds_toArray, List.set_cons_zero, List.set_cons_succ]
                refine wpAnyH_take (i := 6) (v := Value.slice (some ⟨g2, o2', none⟩) l'.length cap') rfl (by kernel_rfl) (by kernel_rfl) (by kernel_rfl) (fun _ _ _ h => h) (Or.inl ⟨rfl, fun w' hw' => ?_⟩) hHeld ?_
                · have c := (hw'.cell (p := ⟨w.heap.size + 1, 3, none⟩) (by show w.heap.size + 1 < _; omega)).trans DB.out; go_simp
                simp only [List.getElem_toArray, List.getElem_cons_succ, List.getElem_cons_zero, Act.put, List.setIfInBounds_toArray, List.set_cons_zero, List.set_cons_succ]
                refine wpAnyH_take (i := 7) (v := Value.int .i64 j) rfl (by kernel_rfl) (by kernel_rfl) (by kernel_rfl) (fun _ _ _ h => h) (Or.inl ⟨rfl, fun w' hw' => ?_⟩) hHeld ?_
                · go_simp
                simp only [List.getElem_toArray, List.getElem_cons_succ, List.getElem_cons_zero, Act.put, List.setIfInBounds_toArray, List.set_cons_zero, List.set_cons_succ]
                refine wpAnyH_take (i := 8) (v := Value.pointer (some ⟨g2, o2' + j * 5, none⟩)) rfl (by kernel_rfl) (by kernel_rfl) (by kernel_rfl) (fun _ _ _ h => h) (Or.inl ⟨rfl, fun w' hw' => ?_⟩) hHeld ?_
                · go_simp
                simp only [List.getElem_toArray, List.getElem_cons_succ, List.getElem_cons_zero, Act.put, List.setIfInBounds_toArray, List.set_cons_zero, List.set_cons_succ]
                refine wpAnyH_take (i := 9) (v := Value.agg #[.int .i64 k6, .string t6, mv6, lv6, .int .i64 p6]) rfl (by kernel_rfl) (by kernel_rfl) (by kernel_rfl) (fun _ _ _ h => h) (Or.inl ⟨rfl, fun w' hw' => ?_⟩) hHeld ?_
                · have qF0 := (hw'.cell (p := ⟨g2, o2' + j * 5, none⟩) (by show g2 < wr.heap.size; omega)).trans F0.out; have qF1 := (hw'.cell (p := ⟨g2, o2' + j * 5 + 1, none⟩) (by show g2 < wr.heap.size; omega)).trans F1.out; have qF2 := (hw'.cell (p := ⟨g2, o2' + j * 5 + 2, none⟩) (by show g2 < wr.heap.size; omega)).trans F2.out; have qF3 := (hw'.cell (p := ⟨g2, o2' + j * 5 + 3, none⟩) (by show g2 < wr.heap.size; omega)).trans F3.out; have qF4 := (hw'.cell (p := ⟨g2, o2' + j * 5 + 4, none⟩) (by show g2 < wr.heap.size; omega)).trans F4.out; go_simp
                simp only [List.getElem_toArray, List.getElem_cons_succ, List.getElem_cons_zero, Act.put, List.setIfInBounds_toArray, List.set_cons_zero, List.set_cons_succ]
                refine wpAnyH_ready (rs := [10]) (by kernel_rfl) (by simp) ?_
                refine (AllReadyH.cons rfl (fun K hK => ?_) AllReadyH.nil)
                go_simp
                refine HX.out.mono ?_
                rintro e w7 ⟨rfl, hb⟩
                have hS7 : Below wr.heap.size wr w7 := (Below.refl wr.heap.size wr).drew.trans hb
                have HS7 := Lib.hid hS7
                refine hK.out _ _ hS7 (fun hHeld => ?_)
                clear hK K hb hS7
                try simp only [List.getElem_toArray, List.getElem_cons_succ, List.getElem_cons_zero, Act.put, List.setIfInBounds_toArray, List.set_cons_zero, List.set_cons_succ]
                refine wpAnyH_take (i := 11) (v := Value.bool (!r)) rfl (by kernel_rfl) (by kernel_rfl) (by kernel_rfl) (fun _ _ _ h => h) (Or.inl ⟨rfl, fun w' hw' => ?_⟩) hHeld ?_
                · go_simp
                simp only [List.getElem_toArray, List.getElem_cons_succ, List.getElem_cons_zero, Act.put, List.setIfInBounds_toArray, List.set_cons_zero, List.set_cons_succ]
                refine wpAnyH_done (by kernel_rfl) ?_ _
                refine NoPanic.normal ?_
                clear hHeld
                have HN := Lib.hid (HBw.out.trans (HS7.out.mono HBw.out.size))
                cases r with
                | false =>
                  have HF : Hid (Dt.sames l l' = false) := sames_get l l' j hlt hlt2 HRR.out
                  go_wp2
                  go_ret
                  exact ⟨by rw [HF.out]; rfl, K1.out.trans (HN.out.mono K1.out.size)⟩
                | true =>
                  have HQ : Hid (FInv l l' w1 (.int .i64 ((j : Int) + 1)) w7) := ⟨j + 1, by omega, by go_num, fun i h1 h2 h3 => by
                    by_cases hij : i = j
                    · subst hij; exact HRR.out
                    · exact HM.out i h1 h2 (by omega), HN.out⟩
                  go_wp2_with fail
                  go_roundw
                  case rel => exact HQ.out
                  case measure => simp [intOf]; omega
              · obtain rfl : j = l.length := by omega
                have q1 : decide ((l.length : Int) < (l.length : Int)) = false := decide_eq_false (by omega)
                have HF : Hid (Dt.sames l l' = true) := sames_all l l' HLN.out (fun i h1 h2 => HM.out i h1 h2 h1)
                go_wp2_with fail
                go_ret
                exact ⟨by rw [HF.out]; rfl, K1.out.trans (HBw.out.mono K1.out.size)⟩
          · have c4 : ((l.length : Int) != (l'.length : Int)) = true := by rw [bne_iff_ne]; omega
            rw [sames_len l l' b4]
            clear b4
            go_enter Tryd.func22, Tryd.ntmps22
            go_wp2_with fail
            refine (HE.out _ M1.out M2.out).mono ?_
            rintro e w1 ⟨rfl, hb⟩
            have K1 := Lib.hid (HB.out.trans (hb.mono HB.out.size))
            have hc := bcell40 hb
            clear hb
            go_wp2
            go_ret
            exact ⟨rfl, K1.out⟩
        · have b3' : (ms == ms') = false := by simpa using b3
          rw [b3'] at HE ⊢
          have HE := Lib.hid HE
          clear b3 b3' b2
          go_enter Tryd.func22, Tryd.ntmps22
          go_wp2_with fail
          refine (HE.out _ M1.out M2.out).mono ?_
          rintro e w1 ⟨rfl, hb⟩
          have K1 := Lib.hid (HB.out.trans (hb.mono HB.out.size))
          have hc := bcell40 hb
          clear hb
          go_wp2
          go_ret
          exact ⟨rfl, K1.out⟩
      · have b2' : (t.toList == t'.toList) = false := by simpa using b2
        have c2 : (t.toList != t'.toList) = true := by rw [bne, b2']; rfl
        have d2 : ¬ t.toList = t'.toList := by rw [← beq_iff_eq, b2']; decide
        rw [b2']
        clear b2 b2'
        go_enter Tryd.func22, Tryd.ntmps22
        go_wp2
        go_ret
        exact ⟨rfl, HB.out⟩
    · have b1' : (k == k') = false := by simpa using b1
      have c1 : (k != k') = true := by rw [bne, b1']; rfl
      rw [b1']
      clear b1 b1'
      go_enter Tryd.func22, Tryd.ntmps22
      go_wp2
      go_ret
      exact ⟨rfl, HB.out⟩
end Go.Proofs.YtahdiknkcgnieaaDoor
namespace Go.Proofs.YtahdiknkcgnieaaDoor
open Go.RowKit
set_option linter.unusedVariables false
set_option linter.unusedSimpArgs false
mutual
theorem same_refl : ∀ (d : Dt), Dt.same d d = true
  | .mk k t ms l p => by rw [same_mk, sames_refl l]; simp
theorem sames_refl : ∀ (l : List Dt), Dt.sames l l = true
  | [] => by simp [Dt.sames]
  | d :: l => by simp [Dt.sames, same_refl d, sames_refl l]
end
mutual
theorem same_size : ∀ (d e : Dt), Dt.same d e = true → d.size = e.size
  | .mk k t ms l p, .mk k' t' ms' l' p', h => by
    rw [same_mk] at h
    simp only [Bool.and_eq_true] at h
    have := sames_size l l' h.2.2.2
    simp only [Dt.size]; omega
theorem sames_size : ∀ (l m : List Dt), Dt.sames l m = true → Dt.sizes l = Dt.sizes m
  | [], [], _ => rfl
  | d :: l, e :: m, h => by
    simp only [Dt.sames, Bool.and_eq_true] at h
    have h1 := same_size d e h.1
    have h2 := sames_size l m h.2
    simp only [Dt.sizes]; omega
  | [], _ :: _, h => by simp [Dt.sames] at h
  | _ :: _, [], h => by simp [Dt.sames] at h
end


def PlInv (n : Nat) (w : World) (iv : Value) (wr : World) : Prop := ∃ j : Nat, j ≤ n ∧ iv = .int .i64 j ∧ Below w.heap.size w wr
set_option maxHeartbeats 4000000 in
theorem places_refl (n : Nat) : n ≤ 1000000 → ∀ (d : Dt), d.size ≤ n → ∀ (S T : Nat → Prop) (cs ds : Array Value) (w : World), Dt.At S w d cs → Dt.At T w d ds → Calls Tryd.prog 26 #[.agg cs, .agg ds] w (RetBool true w) := by
  induction n with
  | zero => intro _ d hd; cases d; simp [Dt.size] at hd
  | succ n ih0 =>
    intro hn d hd S T cs ds w hat hat2
    have IH := Lib.hid (ih0 (by omega))
    have hdd := hd
    have hata := hat
    have hatb := hat2
    obtain ⟨d0, hd0⟩ : ∃ d0, d0 = d := ⟨_, rfl⟩
    rw [← hd0] at hata hatb hdd
    obtain ⟨k, t, ms, l, p⟩ := d
    rw [At_mk] at hat hat2
    obtain ⟨mv, lv, rfl, hm, hl⟩ := hat
    obtain ⟨mv', lv', rfl, hm', hl'⟩ := hat2
    have hsz : Dt.sizes l ≤ n := by simp only [Dt.size] at hd; omega
    have hll := length_sizes l
    have o1 := hm.one
    have o2 := hl.one
    have o3 := hm'.one
    have o4 := hl'.one
    have HB := Lib.hid (((Below.refl w.heap.size w).alloc (Nat.le_refl _) (.cells #[.int .i64 k, .string t, mv, lv, .int .i64 p] 40)).alloc (by simp) (.cells #[.int .i64 k, .string t, mv', lv', .int .i64 p] 40))
    have B0 := Keeps.of_below (S := S) HB.out
    have B1 := Keeps.of_below (S := T) HB.out
    have L1 := Lib.hid (hl.keeps B0)
    have L2 := Lib.hid (hl'.keeps B1)
    have FS := Lib.hid (refsame_any 1000000 (by decide) d0 d0 (by omega) S T _ _ _ (Dt.At.keeps B0 _ _ hata) (Dt.At.keeps B1 _ _ hatb))
    rw [same_refl] at FS
    obtain ⟨ao, cap, rfl⟩ := hl.form
    obtain ⟨bo, cap', rfl⟩ := hl'.form
    have A0 : Hid (((w.alloc (.cells #[.int .i64 k, .string t, mv, .slice ao l.length cap, .int .i64 p] 40)).alloc (.cells #[.int .i64 k, .string t, mv', .slice bo l.length cap', .int .i64 p] 40)).heap[w.heap.size]? = some (.cells #[.int .i64 k, .string t, mv, .slice ao l.length cap, .int .i64 p] 40 (0, 0))) := (Lib.alloc_old _ _ _ (by simp)).trans (alloc_at w _)
    have A1 : Hid (((w.alloc (.cells #[.int .i64 k, .string t, mv, .slice ao l.length cap, .int .i64 p] 40)).alloc (.cells #[.int .i64 k, .string t, mv', .slice bo l.length cap', .int .i64 p] 40)).heap[w.heap.size + 1]? = some (.cells #[.int .i64 k, .string t, mv', .slice bo l.length cap', .int .i64 p] 40 (0, 0))) := second_at w _ _
    have ez : ((w.alloc (.cells #[.int .i64 k, .string t, mv, .slice ao l.length cap, .int .i64 p] 40)).alloc (.cells #[.int .i64 k, .string t, mv', .slice bo l.length cap', .int .i64 p] 40)).heap.size = w.heap.size + 1 + 1 := by simp
    have EZ := Lib.hid ez
    clear ih0 hm hl hm' hl' hd B0 B1 hata hatb hd0 hdd ez
    go_enter Tryd.func26, Tryd.ntmps26
    go_wp2_with (first | (refine wpList_load_row rfl 40 _ rfl (w.heap.size + 1) rfl 40 #[.int .i64 k, .string t, mv', .slice bo l.length cap', .int .i64 p] (0, 0) _ A1.out Tryd.underlying40 rfl info40 ?_) | (refine wpList_load_row rfl 40 _ rfl w.heap.size rfl 40 #[.int .i64 k, .string t, mv, .slice ao l.length cap, .int .i64 p] (0, 0) _ A0.out Tryd.underlying40 rfl info40 ?_))
    refine FS.out.mono ?_
    rintro e w1 ⟨rfl, hb⟩
    have K1 := Lib.hid (HB.out.trans (hb.mono HB.out.size))
    have K2 := Lib.hid (L1.out.keeps (Keeps.of_below hb))
    have K3 := Lib.hid (L2.out.keeps (Keeps.of_below hb))
    have hsw := hb.size
    rw [EZ.out] at hsw
    have cA : w1.cell? ⟨w.heap.size, 3, none⟩ = some (.slice ao l.length cap) := by rw [Lib.cell_of_heap (Below.row hb A0.out)]; rfl
    have cB : w1.cell? ⟨w.heap.size + 1, 3, none⟩ = some (.slice bo l.length cap') := by rw [Lib.cell_of_heap (Below.row hb A1.out)]; rfl
    have pA : w1.cell? ⟨w.heap.size, 4, none⟩ = some (.int .i64 p) := by rw [Lib.cell_of_heap (Below.row hb A0.out)]; rfl
    have pB : w1.cell? ⟨w.heap.size + 1, 4, none⟩ = some (.int .i64 p) := by rw [Lib.cell_of_heap (Below.row hb A1.out)]; rfl
    have CA := Lib.hid cA
    have CB := Lib.hid cB
    have qp : (p != p) = false := by simp
    clear hb FS L1 L2 HB cA cB A0 A1
    go_wp2_with fail
    clear pA pB qp
    go_loopw [5] (fun iv wr => PlInv l.length w1 iv wr) (fun iv _ => l.length - (intOf iv).toNat)
    case atStart => exact ⟨0, Nat.zero_le _, rfl, Below.refl _ _⟩
    case round =>
      obtain ⟨j, hj, rfl, hbw⟩ := hrel
      have HBw := Lib.hid hbw
      have hsr := hbw.size
      have cA := (hbw.cell (p := ⟨w.heap.size, 3, none⟩) (by show w.heap.size < _; omega)).trans CA.out
      have cB := (hbw.cell (p := ⟨w.heap.size + 1, 3, none⟩) (by show w.heap.size + 1 < _; omega)).trans CB.out
      clear hbw
      by_cases hlt : j < l.length
      · have q1 : decide ((j : Int) < (l.length : Int)) = true := decide_eq_true (by omega)
        obtain ⟨g, o, k5, t5, mv5, lv5, p5, rfl, hS, -, hat, e0, e1, e2, e3, e4, o5, o6⟩ := (K2.out.keeps (Keeps.of_below HBw.out)).get j hlt
        obtain ⟨g2, o2', k6, t6, mv6, lv6, p6, rfl, hS2, -, hat2, f0, f1, f2, f3, f4, o7, o8⟩ := (K3.out.keeps (Keeps.of_below HBw.out)).get j hlt
        have hg : g < wr.heap.size := World.block_lt_of_cell? wr _ e0
        have hg2 : g2 < wr.heap.size := World.block_lt_of_cell? wr _ f0
        have hsj := size_get l j hlt
        have HX' := IH.out l[j] (by omega) S T _ _ wr.drew (Dt.At.keeps (Keeps.of_below (Below.refl _ _).drew) _ _ hat) (Dt.At.keeps (Keeps.of_below (Below.refl _ _).drew) _ _ hat2)
        have HX := Lib.hid HX'
        have E0 := Lib.hid e0
        have E1 := Lib.hid e1
        have E2 := Lib.hid e2
        have E3 := Lib.hid e3
        have E4 := Lib.hid e4
        have F0 := Lib.hid f0
        have F1 := Lib.hid f1
        have F2 := Lib.hid f2
        have F3 := Lib.hid f3
        have F4 := Lib.hid f4
        clear HX' hat hat2 hS hS2 e0 e1 e2 e3 e4 f0 f1 f2 f3 f4 IH
        go_upto_region 6 with fail
        have DA := Lib.hid cA
        have DB := Lib.hid cB
        clear cA cB q1
        refine wp_region_noPanic ?_
        refine wp_region_held_drew (S := Below wr.heap.size wr) (by kernel_rfl) ((Below.refl _ _).drew) (fun hHeld => ?_)
        refine wpAnyH_take (i := 0) (v := Value.pointer (some ⟨w.heap.size, 3, none⟩)) rfl (by kernel_rfl) (by kernel_rfl) (by kernel_rfl) (fun _ _ _ h => h) (Or.inl ⟨rfl, fun w' hw' => ?_⟩) hHeld ?_
        · go_simp
        simp only [List.getElem_toArray, List.getElem_cons_succ, List.getElem_cons_zero, Act.put, List.setIfInBounds_toArray, List.set_cons_zero, List.set_cons_succ]
        refine wpAnyH_take (i := 1) (v := Value.slice (some ⟨g, o, none⟩) l.length cap) rfl (by kernel_rfl) (by kernel_rfl) (by kernel_rfl) (fun _ _ _ h => h) (Or.inl ⟨rfl, fun w' hw' => ?_⟩) hHeld ?_
        · have c := (hw'.cell (p := ⟨w.heap.size, 3, none⟩) (by show w.heap.size < _; omega)).trans DA.out; go_simp
        simp only [List.getElem_toArray, List.getElem_cons_succ, List.getElem_cons_zero, Act.put, List.setIfInBounds_toArray, List.set_cons_zero, List.set_cons_succ]
        refine wpAnyH_take (i := 2) (v := Value.int .i64 j) rfl (by kernel_rfl) (by kernel_rfl) (by kernel_rfl) (fun _ _ _ h => h) (Or.inl ⟨rfl, fun w' hw' => ?_⟩) hHeld ?_
        · go_simp
        simp only [List.getElem_toArray, List.getElem_cons_succ, List.getElem_cons_zero, Act.put, List.setIfInBounds_toArray, List.set_cons_zero, List.set_cons_succ]
        refine wpAnyH_take (i := 3) (v := Value.pointer (some ⟨g, o + j * 5, none⟩)) rfl (by kernel_rfl) (by kernel_rfl) (by kernel_rfl) (fun _ _ _ h => h) (Or.inl ⟨rfl, fun w' hw' => ?_⟩) hHeld ?_
        · go_simp
        simp only [List.getElem_toArray, List.getElem_cons_succ, List.getElem_cons_zero, Act.put, List.setIfInBounds_toArray, List.set_cons_zero, List.set_cons_succ]
        refine wpAnyH_take (i := 4) (v := Value.agg #[.int .i64 k5, .string t5, mv5, lv5, .int .i64 p5]) rfl (by kernel_rfl) (by kernel_rfl) (by kernel_rfl) (fun _ _ _ h => h) (Or.inl ⟨rfl, fun w' hw' => ?_⟩) hHeld ?_
        · have qE0 := (hw'.cell (p := ⟨g, o + j * 5, none⟩) (by show g < wr.heap.size; omega)).trans E0.out; have qE1 := (hw'.cell (p := ⟨g, o + j * 5 + 1, none⟩) (by show g < wr.heap.size; omega)).trans E1.out; have qE2 := (hw'.cell (p := ⟨g, o + j * 5 + 2, none⟩) (by show g < wr.heap.size; omega)).trans E2.out; have qE3 := (hw'.cell (p := ⟨g, o + j * 5 + 3, none⟩) (by show g < wr.heap.size; omega)).trans E3.out; have qE4 := (hw'.cell (p := ⟨g, o + j * 5 + 4, none⟩) (by show g < wr.heap.size; omega)).trans E4.out; go_simp
        simp only [List.getElem_toArray, List.getElem_cons_succ, List.getElem_cons_zero, Act.put, List.setIfInBounds_toArray, List.set_cons_zero, List.set_cons_succ]
        refine wpAnyH_take (i := 5) (v := Value.pointer (some ⟨w.heap.size + 1, 3, none⟩)) rfl (by kernel_rfl) (by kernel_rfl) (by kernel_rfl) (fun _ _ _ h => h) (Or.inl ⟨rfl, fun w' hw' => ?_⟩) hHeld ?_
        · go_simp
        simp only [List.getElem_toArray, List.getElem_cons_succ, List.getElem_cons_zero, Act.put, List.setIfInBounds_toArray, List.set_cons_zero, List.set_cons_succ]
        refine wpAnyH_take (i := 6) (v := Value.slice (some ⟨g2, o2', none⟩) l.length cap') rfl (by kernel_rfl) (by kernel_rfl) (by kernel_rfl) (fun _ _ _ h => h) (Or.inl ⟨rfl, fun w' hw' => ?_⟩) hHeld ?_
        · have c := (hw'.cell (p := ⟨w.heap.size + 1, 3, none⟩) (by show w.heap.size + 1 < _; omega)).trans DB.out; go_simp
        simp only [List.getElem_toArray, List.getElem_cons_succ, List.getElem_cons_zero, Act.put, List.setIfInBounds_toArray, List.set_cons_zero, List.set_cons_succ]
        refine wpAnyH_take (i := 7) (v := Value.int .i64 j) rfl (by kernel_rfl) (by kernel_rfl) (by kernel_rfl) (fun _ _ _ h => h) (Or.inl ⟨rfl, fun w' hw' => ?_⟩) hHeld ?_
        · go_simp
        simp only [List.getElem_toArray, List.getElem_cons_succ, List.getElem_cons_zero, Act.put, List.setIfInBounds_toArray, List.set_cons_zero, List.set_cons_succ]
        refine wpAnyH_take (i := 8) (v := Value.pointer (some ⟨g2, o2' + j * 5, none⟩)) rfl (by kernel_rfl) (by kernel_rfl) (by kernel_rfl) (fun _ _ _ h => h) (Or.inl ⟨rfl, fun w' hw' => ?_⟩) hHeld ?_
        · go_simp
        simp only [List.getElem_toArray, List.getElem_cons_succ, List.getElem_cons_zero, Act.put, List.setIfInBounds_toArray, List.set_cons_zero, List.set_cons_succ]
        refine wpAnyH_take (i := 9) (v := Value.agg #[.int .i64 k6, .string t6, mv6, lv6, .int .i64 p6]) rfl (by kernel_rfl) (by kernel_rfl) (by kernel_rfl) (fun _ _ _ h => h) (Or.inl ⟨rfl, fun w' hw' => ?_⟩) hHeld ?_
        · have qF0 := (hw'.cell (p := ⟨g2, o2' + j * 5, none⟩) (by show g2 < wr.heap.size; omega)).trans F0.out; have qF1 := (hw'.cell (p := ⟨g2, o2' + j * 5 + 1, none⟩) (by show g2 < wr.heap.size; omega)).trans F1.out; have qF2 := (hw'.cell (p := ⟨g2, o2' + j * 5 + 2, none⟩) (by show g2 < wr.heap.size; omega)).trans F2.out; have qF3 := (hw'.cell (p := ⟨g2, o2' + j * 5 + 3, none⟩) (by show g2 < wr.heap.size; omega)).trans F3.out; have qF4 := (hw'.cell (p := ⟨g2, o2' + j * 5 + 4, none⟩) (by show g2 < wr.heap.size; omega)).trans F4.out; go_simp
        simp only [List.getElem_toArray, List.getElem_cons_succ, List.getElem_cons_zero, Act.put, List.setIfInBounds_toArray, List.set_cons_zero, List.set_cons_succ]
        refine wpAnyH_ready (rs := [10]) (by kernel_rfl) (by simp) ?_
        refine (AllReadyH.cons rfl (fun K hK => ?_) AllReadyH.nil)
        go_simp
        refine HX.out.mono ?_
        rintro e w7 ⟨rfl, hb⟩
        have hS7 : Below wr.heap.size wr w7 := (Below.refl wr.heap.size wr).drew.trans hb
        have HS7 := Lib.hid hS7
        refine hK.out _ _ hS7 (fun hHeld => ?_)
        clear hK K hb hS7
        try simp only [List.getElem_toArray, List.getElem_cons_succ, List.getElem_cons_zero, Act.put, List.setIfInBounds_toArray, List.set_cons_zero, List.set_cons_succ]
        refine wpAnyH_take (i := 11) (v := Value.bool false) rfl (by kernel_rfl) (by kernel_rfl) (by kernel_rfl) (fun _ _ _ h => h) (Or.inl ⟨rfl, fun w' hw' => ?_⟩) hHeld ?_
        · go_simp
        simp only [List.getElem_toArray, List.getElem_cons_succ, List.getElem_cons_zero, Act.put, List.setIfInBounds_toArray, List.set_cons_zero, List.set_cons_succ]
        refine wpAnyH_done (by kernel_rfl) ?_ _
        refine NoPanic.normal ?_
        clear hHeld
        have HN := Lib.hid (HBw.out.trans (HS7.out.mono HBw.out.size))
        go_wp2_with fail
        go_roundw
        case rel => exact ⟨j + 1, by omega, by go_num, HN.out⟩
        case measure => simp [intOf]; omega
      · obtain rfl : j = l.length := by omega
        have q1 : decide ((l.length : Int) < (l.length : Int)) = false := decide_eq_false (by omega)
        go_wp2_with fail
        go_ret
        exact ⟨rfl, K1.out.trans (HBw.out.mono K1.out.size)⟩
end Go.Proofs.YtahdiknkcgnieaaDoor
