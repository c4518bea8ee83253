/- Raw terms: how they lie in memory, how many there are. -/
import Derived.Test.YtcalbcllmmoldaaOW
import Derived.Deep.Slices
import Derived.Deep.Fields
import Derived.ChangeSame
import Derived.Below
namespace Go.Proofs.Ytcalbcllmmoldaa
open Go.RowKit Go.ChangeShapes Go.WideShapes Go.Deep
set_option linter.unusedVariables false
set_option linter.unusedSimpArgs false

/-- A raw datum: two numbers, and parts. -/
inductive Rw where
  | mk (k n : Int) (l : List Rw) : Rw
namespace Rw
def num : Rw → Int | mk k _ _ => k
def at_ : Rw → Int | mk _ n _ => n
def parts : Rw → List Rw | mk _ _ l => l
mutual
/-- How many there are, with itself. -/
def cnt : Rw → Nat
  | mk _ _ l => 1 + cnts l
def cnts : List Rw → Nat
  | [] => 0
  | r :: l => r.cnt + cnts l
end
end Rw

mutual
/-- At this address lies this raw datum. -/
def Rw.At (w : World) : Rw → Addr → Prop
  | .mk k n l, a => w.cell? (a.add 0) = some (.int .i64 k) ∧ w.cell? (a.add 1) = some (.int .i64 n) ∧ I64 k ∧ I64 n ∧
      ∃ ao cap, w.cell? (a.add 2) = some (.slice ao l.length cap) ∧ l.length ≤ maxLen ∧ (l = [] ∨ ∃ b, ao = some b ∧ Rws.At w l b)
/-- From this address on lie these, one behind the other. -/
def Rws.At (w : World) : List Rw → Addr → Prop
  | [], _ => True
  | r :: l, b => Rw.At w r b ∧ Rws.At w l (b.add 3)
end
/-- A slice that reads as these. -/
def RsAt (w : World) (ao : Option Addr) (l : List Rw) : Prop := l.length ≤ maxLen ∧ (l = [] ∨ ∃ b, ao = some b ∧ Rws.At w l b)

theorem Rws.At.get {w : World} : ∀ (l : List Rw) (b : Addr), Rws.At w l b → ∀ j (h : j < l.length), Rw.At w l[j] (b.add (j * 3))
  | [], _, _, j, h => by simp at h
  | r :: l, b, H, 0, _ => by
    unfold Rws.At at H
    have e : b.add (0 * 3) = b := by simp [Addr.add]
    rw [e]; exact H.1
  | r :: l, b, H, j + 1, h => by
    unfold Rws.At at H
    have := Rws.At.get l (b.add 3) H.2 j (by simpa using h)
    rw [add_add] at this
    have e : 3 + j * 3 = (j + 1) * 3 := by omega
    rw [e] at this
    exact this
theorem Rws.At.of_get {w : World} : ∀ (l : List Rw) (b : Addr), (∀ j (h : j < l.length), Rw.At w l[j] (b.add (j * 3))) → Rws.At w l b
  | [], _, _ => by unfold Rws.At; trivial
  | r :: l, b, H => by
    unfold Rws.At
    refine ⟨?_, Rws.At.of_get l (b.add 3) fun j h => ?_⟩
    · have := H 0 (by simp)
      have e : b.add (0 * 3) = b := by simp [Addr.add]
      rw [e] at this; exact this
    · have := H (j + 1) (by simpa using h)
      rw [add_add]
      have e : 3 + j * 3 = (j + 1) * 3 := by omega
      rw [e]; exact this
theorem cell_below {w w' : World} (h : Below w.heap.size w w') {a : Addr} {v : Value} (hc : w.cell? a = some v) : w'.cell? a = some v := by
  rw [h.cell (World.block_lt_of_cell? w a hc)]; exact hc
mutual
theorem Rw.At.below {w w' : World} (h : Below w.heap.size w w') : ∀ (r : Rw) (a : Addr), Rw.At w r a → Rw.At w' r a
  | .mk k n l, a, H => by
    unfold Rw.At at H ⊢
    obtain ⟨h1, h2, h3, h4, ao, cap, h5, h6, h7⟩ := H
    refine ⟨cell_below h h1, cell_below h h2, h3, h4, ao, cap, cell_below h h5, h6, ?_⟩
    rcases h7 with h7 | ⟨b, h8, h9⟩
    · exact .inl h7
    · exact .inr ⟨b, h8, Rws.At.below h l b h9⟩
theorem Rws.At.below {w w' : World} (h : Below w.heap.size w w') : ∀ (l : List Rw) (b : Addr), Rws.At w l b → Rws.At w' l b
  | [], _, _ => by unfold Rws.At; trivial
  | r :: l, b, H => by
    unfold Rws.At at H ⊢
    exact ⟨Rw.At.below h r b H.1, Rws.At.below h l (b.add 3) H.2⟩
end
theorem RsAt.below {w w' : World} {ao : Option Addr} {l : List Rw} (H : RsAt w ao l) (h : Below w.heap.size w w') : RsAt w' ao l := by
  refine ⟨H.1, ?_⟩
  rcases H.2 with h7 | ⟨b, h8, h9⟩
  · exact .inl h7
  · exact .inr ⟨b, h8, Rws.At.below h l b h9⟩
/-- One part of a slice: its cells, and its own parts. -/
theorem RsAt.get {w : World} {ao : Option Addr} {l : List Rw} (H : RsAt w ao l) (j : Nat) (h : j < l.length) :
    ∃ b k n po pl pc, ao = some b ∧ l[j] = .mk k n pl ∧ w.cell? (b.add (j * 3)) = some (.int .i64 k) ∧ w.cell? ⟨(b.add (j * 3)).block, (b.add (j * 3)).off + 1, none⟩ = some (.int .i64 n) ∧ w.cell? ⟨(b.add (j * 3)).block, (b.add (j * 3)).off + 2, none⟩ = some (.slice po pl.length pc) ∧
      I64 k ∧ I64 n ∧ RsAt w po pl := by
  rcases H.2 with rfl | ⟨b, h8, h9⟩
  · simp at h
  · have := Rws.At.get l b h9 j h
    generalize hd : l[j] = d at this
    obtain ⟨k, n, pl⟩ := d
    unfold Rw.At at this
    obtain ⟨h1, h2, h3, h4, po, pc, h5, h6, h7⟩ := this
    have e : (b.add (j * 3)).add 0 = b.add (j * 3) := by simp [Addr.add]
    rw [e] at h1
    exact ⟨b, k, n, po, pl, pc, h8, rfl, h1, h2, h5, h3, h4, h6, h7⟩
theorem cnts_get : ∀ (l : List Rw) (j : Nat) (h : j < l.length), l[j].cnt ≤ Rw.cnts l
  | [], j, h => by simp at h
  | r :: l, 0, _ => by simp [Rw.cnts]
  | r :: l, j + 1, h => by
    have := cnts_get l j (by simpa using h)
    simp only [Rw.cnts, List.getElem_cons_succ]; omega
theorem length_cnts : ∀ (l : List Rw), l.length ≤ Rw.cnts l
  | [] => by simp
  | r :: l => by
    have h1 := length_cnts l
    have h2 : 1 ≤ r.cnt := by cases r; simp only [Rw.cnt]; omega
    simp only [List.length_cons, Rw.cnts]; omega

theorem list_of {α : Type} (p : Nat → α → Prop) : ∀ (n : Nat), (∀ i, i < n → ∃ r, p i r) → ∃ l : List α, l.length = n ∧ ∀ i (h : i < l.length), p i l[i]
  | 0, _ => ⟨[], rfl, fun i h => by simp at h⟩
  | n + 1, H => by
    obtain ⟨l, hl, hp⟩ := list_of p n (fun i hi => H i (by omega))
    obtain ⟨r, hr⟩ := H n (by omega)
    refine ⟨l ++ [r], by simp [hl], fun i h => ?_⟩
    by_cases hi : i < l.length
    · rw [List.getElem_append_left hi]; exact hp i hi
    · have : i = l.length := by simp at h; omega
      subst this
      rw [List.getElem_append_right (by omega)]
      simp [hl]; exact hr
theorem cells44 : Try.prog.cellsOf 44 = 3 := by kernel_rfl

section
variable {H : Type} {enc : TypeId × Value → H} {w : World} {base : Nat} {spare : Nat → Bool} {held : Bool}
set_option maxRecDepth 100000 in
theorem raws_open (N : Nat) : ∀ (fuel : Nat), fuel ≤ N → ∀ (cs : List Value) (x : DataW H × List MemPlace), DataW.trod enc Try.prog w base spare held fuel 22 cs = some x →
    ∃ ao cap, ∃ l : List Rw, cs = [.slice ao l.length cap] ∧ RsAt w ao l := by
  induction N with
  | zero =>
    intro fuel hf cs x h
    obtain rfl : fuel = 0 := by omega
    simp [DataW.trod] at h
  | succ N ih =>
    intro fuel hf cs x h
    rcases DataW.trod_slice Try.underlying22 h with ⟨rfl, _⟩ | ⟨a, len, cap, elems, rest, n, rfl, rfl, _, _, hlc, hcm, hlen, hel, _, _⟩
    · exact ⟨none, 0, [], rfl, by simp [maxLen], .inl rfl⟩
    · have one : ∀ i, i < len → ∃ r, Rw.At w r (a.add (i * 3)) := by
        intro i hi
        have h1 := hel i hi
        rw [cells44] at h1
        have h2 : elems[i]? = some (elems[i]'(by omega)) := List.getElem?_eq_getElem (by omega)
        rw [h2] at h1
        obtain ⟨cs', hc, ht⟩ := Option.bind_eq_some_iff.1 h1
        obtain ⟨_, hcl, hat⟩ := World.cells?_some hc
        obtain ⟨ys, n', rfl, _, _, hyl, hfield⟩ := DataW.trod_struct Try.underlying44 ht
        match cs', hcl with
        | [c0, c1, c2], _ =>
          have f0 := hfield 0 _ rfl
          have f1 := hfield 1 _ rfl
          have f2 := hfield 2 _ rfl
          obtain ⟨y0, g0⟩ : ∃ y, ys[0]? = some y := ⟨_, List.getElem?_eq_getElem (by rw [hyl]; decide)⟩
          obtain ⟨y1, g1⟩ : ∃ y, ys[1]? = some y := ⟨_, List.getElem?_eq_getElem (by rw [hyl]; decide)⟩
          obtain ⟨y2, g2⟩ : ∃ y, ys[2]? = some y := ⟨_, List.getElem?_eq_getElem (by rw [hyl]; decide)⟩
          have c1' : Try.prog.cellsOf 3 = 1 := by kernel_rfl
          have c2' : Try.prog.cellsOf 22 = 1 := by kernel_rfl
          have f0' : DataW.trod enc Try.prog w base spare held n' 3 [c0] = some y0 := by
            have := f0.trans g0
            simpa [c1'] using this
          have f1' : DataW.trod enc Try.prog w base spare held n' 3 [c1] = some y1 := by
            have := f1.trans g1
            simpa [c1'] using this
          have f2' : DataW.trod enc Try.prog w base spare held n' 22 [c2] = some y2 := by
            have := f2.trans g2
            simpa [c2'] using this
          obtain ⟨k, e0, _, w0⟩ := DataW.trod_int Try.underlying3 f0'
          obtain ⟨m, e1, _, w1⟩ := DataW.trod_int Try.underlying3 f1'
          obtain ⟨po, pc, pl, e2, hp⟩ := ih n' (by omega) _ _ f2'
          have q0 := hat 0 (by decide)
          have q1 := hat 1 (by decide)
          have q2 := hat 2 (by decide)
          simp only [List.cons.injEq, and_true] at e0 e1 e2
          subst e0 e1 e2
          refine ⟨.mk k m pl, ?_⟩
          unfold Rw.At
          exact ⟨q0, q1, wf_I64 _ w0, wf_I64 _ w1, po, pc, q2, hp.1, hp.2⟩
      obtain ⟨l, hl, hp⟩ := list_of _ len one
      subst hl
      exact ⟨some a, cap, l, rfl, by omega, .inr ⟨a, rfl, Rws.At.of_get l a hp⟩⟩
set_option maxRecDepth 100000 in
/-- A slice of raw data among the arguments. -/
theorem open_raws {v : Value} {d : DataW H} {p : List MemPlace} (hv : ∃ a n c, v = .slice a n c) (h : DataW.Trod enc Try.prog w base spare held 22 v d p) :
    ∃ ao cap, ∃ l : List Rw, v = .slice ao l.length cap ∧ RsAt w ao l := by
  obtain ⟨a, n, c, rfl⟩ := hv
  obtain ⟨fuel, hf⟩ := h
  obtain ⟨ao, cap, l, e, hl⟩ := raws_open fuel fuel (Nat.le_refl _) _ _ hf
  simp [Value.cells] at e
  obtain ⟨rfl, rfl, rfl⟩ := e
  exact ⟨_, _, l, rfl, hl⟩
end

theorem cnts_take (l : List Rw) (j : Nat) (h : j < l.length) : Rw.cnts (l.take (j + 1)) = Rw.cnts (l.take j) + l[j].cnt := by
  have hs : ∀ (a b : List Rw), Rw.cnts (a ++ b) = Rw.cnts a + Rw.cnts b := by
    intro a b
    induction a with
    | nil => simp [Rw.cnts]
    | cons d a ih => simp only [List.cons_append, Rw.cnts, ih]; omega
  rw [List.take_succ_eq_append_getElem h, hs]
  simp [Rw.cnts]
/-- A count: what it is where it is small. -/
def RetSz (l : List Rw) (deep : Nat) (w : World) (e : Ending) (w' : World) : Prop :=
  ∃ r : Nat, e = .returned (.int .i64 r) ∧ r ≤ 1000 + 41 * (13 - deep) ∧ (r ≤ 40 → Rw.cnts l = r) ∧ w = w'
def ZInv (l : List Rw) (deep : Nat) (nv iv : Value) : Prop :=
  ∃ j m : Nat, j ≤ l.length ∧ iv = .int .i64 j ∧ nv = .int .i64 m ∧ m ≤ 1000 + 41 * (13 - deep) ∧ (m ≤ 40 → Rw.cnts (l.take j) = m)

set_option maxHeartbeats 2000000 in
theorem rsize (N : Nat) : ∀ (l : List Rw), Rw.cnts l ≤ N → ∀ (deep : Nat), deep ≤ 13 → ∀ (ao : Option Addr) (cap : Nat) (w : World), RsAt w ao l →
    Calls Try.prog 33 #[.slice ao l.length cap, .int .i64 (deep : Int)] w (RetSz l deep w) := by
  have base : ∀ (l : List Rw) (ao : Option Addr) (cap : Nat) (w : World), Calls Try.prog 33 #[.slice ao l.length cap, .int .i64 ((13 : Nat) : Int)] w (RetSz l 13 w) := by
    intro l ao cap w
    go_enter Try.func33, Try.ntmps33
    go_wp2
    go_ret
    exact ⟨1000, rfl, by omega, by omega, rfl⟩
  induction N with
  | zero =>
    intro l hl deep hd ao cap w hR
    have hln := length_cnts l
    have h0 : l.length = 0 := by omega
    by_cases h13 : deep = 13
    · subst h13; exact base l ao cap w
    · have q0 : decide ((12 : Int) < (deep : Int)) = false := decide_eq_false (by omega)
      have HC : Hid (Rw.cnts l = 0) := by show _ = _; omega
      rw [h0]
      clear base hR hln h0 hl
      go_enter Try.func33, Try.ntmps33
      go_wp2_with fail
      go_loop [5, 6] (fun nv iv => nv = .int .i64 0 ∧ iv = .int .i64 0) (fun _ _ => 0)
      case atStart => exact ⟨rfl, rfl⟩
      case round =>
        obtain ⟨rfl, rfl⟩ := hrel
        go_wp2_with fail
        go_ret
        exact ⟨0, rfl, by omega, fun _ => HC.out, rfl⟩
  | succ N ih =>
    intro l hl deep hd ao cap w hR
    have hlm := hR.1
    by_cases h13 : deep = 13
    · subst h13; exact base l ao cap w
    · have q0 : decide ((12 : Int) < (deep : Int)) = false := decide_eq_false (by omega)
      have IH := Lib.hid ih
      have HR := Lib.hid hR
      unfold maxLen at hlm
      clear base ih hR
      go_enter Try.func33, Try.ntmps33
      go_wp2_with fail
      go_loop [5, 6] (fun nv iv => ZInv l deep nv iv) (fun _ iv => l.length - (intOf iv).toNat)
      case atStart => exact ⟨0, 0, Nat.zero_le _, rfl, rfl, by omega, fun _ => by simp [Rw.cnts]⟩
      case round =>
        obtain ⟨j, m, hj, rfl, rfl, hm1, hm2⟩ := hrel
        have HM := Lib.hid hm2
        clear hm2
        by_cases hlt : j < l.length
        · have q1 : decide ((j : Int) < (l.length : Int)) = true := decide_eq_true (by omega)
          by_cases h40 : m ≤ 40
          · have q2 : decide ((m : Int) ≤ 40) = true := decide_eq_true (by omega)
            obtain ⟨b, k, n, po, pl, pc, rfl, hlj, c0, c1, c2, i1, i2, hpl⟩ := HR.out.get j hlt
            have HP := Lib.hid hpl
            have hcj := cnts_get l j hlt
            have hct := cnts_take l j hlt
            rw [hlj] at hcj hct
            simp only [Rw.cnt] at hcj hct
            have HT := Lib.hid hct
            clear hpl hlj hct c0 c1
            go_wp2_with fail
            refine (IH.out pl (by omega) (deep + 1) (by omega) po pc w HP.out).mono ?_
            rintro e w' ⟨r, rfl, hr1, hr2, rfl⟩
            have HN := Lib.hid (show m + 1 + r ≤ 40 → Rw.cnts (l.take (j + 1)) = m + 1 + r by
              intro h
              have h1 := HM.out (by omega)
              have h2 := hr2 (by omega)
              rw [HT.out, h1, h2]; omega)
            have hb : m + 1 + r ≤ 1000 + 41 * (13 - deep) := by omega
            have hsm : m + 1 + r ≤ 100000 := by omega
            clear hr1 hr2
            go_wp2_with fail
            go_round
            case rel => exact ⟨j + 1, m + 1 + r, by omega, by go_num, by go_num, hb, HN.out⟩
            case measure => simp [intOf]; omega
          · have q2 : decide ((m : Int) ≤ 40) = false := decide_eq_false (by omega)
            go_wp2_with fail
            go_ret
            exact ⟨m, rfl, hm1, fun h => absurd h (by omega), rfl⟩
        · obtain rfl : j = l.length := by omega
          have HE : Hid (m ≤ 40 → Rw.cnts l = m) := by
            have h := HM.out
            have e : l.take l.length = l := List.take_length
            rw [e] at h; exact h
          clear hlt
          go_wp2_with fail
          go_ret
          exact ⟨m, rfl, hm1, HE.out, rfl⟩

/-- Whether they are few. -/
def RetFew (l : List Rw) (w : World) (e : Ending) (w' : World) : Prop := ∃ r : Bool, e = .returned (.bool r) ∧ (r = true → Rw.cnts l ≤ 40) ∧ w = w'
theorem few_any (l : List Rw) (ao : Option Addr) (cap : Nat) (w : World) (hR : RsAt w ao l) : Calls Try.prog 12 #[.slice ao l.length cap] w (RetFew l w) := by
  have HR := Lib.hid (rsize _ l (Nat.le_refl _) 0 (by decide) ao cap w hR)
  clear hR
  go_enter Try.func12, Try.ntmps12
  go_wp2_with fail
  refine HR.out.mono ?_
  rintro e w' ⟨r, rfl, hr1, hr2, rfl⟩
  have HN := Lib.hid hr2
  clear hr1 hr2
  by_cases h40 : r ≤ 40
  · have q : decide ((r : Int) ≤ 40) = true := decide_eq_true (by omega)
    go_wp2
    go_ret
    exact ⟨true, rfl, fun _ => by have := HN.out h40; omega, rfl⟩
  · have q : decide ((r : Int) ≤ 40) = false := decide_eq_false (by omega)
    go_wp2
    go_ret
    exact ⟨false, rfl, (fun h => by cases h), rfl⟩
end Go.Proofs.Ytcalbcllmmoldaa
