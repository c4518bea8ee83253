/- Contracts of size and Few: how many raw data there are. -/
import Derived.Test.YtkjcbaikebdmmaaDoorW2
namespace Go.Proofs.YtkjcbaikebdmmaaDoor
open Go.RowKit
set_option linter.unusedVariables false
set_option linter.unusedSimpArgs false

theorem cnts_take (l : List Rw) (j : Nat) (h : j < l.length) : Rw.cnts (l.take (j + 1)) = Rw.cnts (l.take j) + l[j].cnt := by
  have hs : ∀ (a b : List Rw), Rw.cnts (a ++ b) = Rw.cnts a + Rw.cnts b := by
    intro a b
    induction a with
    | nil => simp [Rw.cnts]
    | cons d a ih => simp only [List.cons_append, Rw.cnts, ih]; omega
  rw [List.take_succ_eq_append_getElem h, hs]
  simp [Rw.cnts]
mutual
/-- How many stand in each other. -/
def Rw.dp : Rw → Nat
  | .mk _ _ l => 1 + Rw.dps l
def Rw.dps : List Rw → Nat
  | [] => 0
  | r :: l => max r.dp (Rw.dps l)
end
theorem dps_take (l : List Rw) (j : Nat) (h : j < l.length) : Rw.dps (l.take (j + 1)) = max (Rw.dps (l.take j)) l[j].dp := by
  have hs : ∀ (a b : List Rw), Rw.dps (a ++ b) = max (Rw.dps a) (Rw.dps b) := by
    intro a b
    induction a with
    | nil => simp [Rw.dps]
    | cons d a ih => simp only [List.cons_append, Rw.dps, ih]; omega
  rw [List.take_succ_eq_append_getElem h, hs]
  simp [Rw.dps]
/-- A count: what it is where it is small. -/
def RetSz (l : List Rw) (deep : Nat) (w : World) (e : Ending) (w' : World) : Prop :=
  ∃ r : Nat, e = .returned (.int .i64 r) ∧ r ≤ 1000 + 61 * (21 - deep) ∧ (r ≤ 60 → Rw.cnts l = r ∧ Rw.dps l + deep ≤ 21) ∧ w = w'
def ZInv (l : List Rw) (deep : Nat) (nv iv : Value) : Prop :=
  ∃ j m : Nat, j ≤ l.length ∧ iv = .int .i64 j ∧ nv = .int .i64 m ∧ m ≤ 1000 + 61 * (21 - deep) ∧ (m ≤ 60 → Rw.cnts (l.take j) = m ∧ Rw.dps (l.take j) + deep ≤ 21)

set_option maxHeartbeats 2000000 in
theorem rsize (N : Nat) : ∀ (l : List Rw), Rw.cnts l ≤ N → ∀ (deep : Nat), deep ≤ 21 → ∀ (ao : Option Addr) (cap : Nat) (w : World), RsAt w ao l →
    Calls Tryd.prog 37 #[.slice ao l.length cap, .int .i64 (deep : Int)] w (RetSz l deep w) := by
  have base : ∀ (l : List Rw) (ao : Option Addr) (cap : Nat) (w : World), Calls Tryd.prog 37 #[.slice ao l.length cap, .int .i64 ((21 : Nat) : Int)] w (RetSz l 21 w) := by
    intro l ao cap w
    go_enter Tryd.func37, Tryd.ntmps37
    go_wp2
    go_ret
    exact ⟨1000, rfl, by omega, by omega, rfl⟩
  induction N with
  | zero =>
    intro l hl deep hd ao cap w hR
    have hln := length_cnts l
    have h0 : l.length = 0 := by omega
    by_cases h21 : deep = 21
    · subst h21; exact base l ao cap w
    · have q0 : decide ((20 : Int) < (deep : Int)) = false := decide_eq_false (by omega)
      have HC : Hid (Rw.cnts l = 0 ∧ Rw.dps l + deep ≤ 21) := ⟨by omega, by rw [List.length_eq_zero_iff.1 h0]; simp [Rw.dps]; omega⟩
      rw [h0]
      clear base hR hln h0 hl
      go_enter Tryd.func37, Tryd.ntmps37
      go_wp2_with fail
      go_loop [5, 6] (fun nv iv => nv = .int .i64 0 ∧ iv = .int .i64 0) (fun _ _ => 0)
      case atStart => exact ⟨rfl, rfl⟩
      case round =>
        obtain ⟨rfl, rfl⟩ := hrel
        go_wp2_with fail
        go_ret
        exact ⟨0, rfl, by omega, fun _ => HC.out, rfl⟩
  | succ N ih =>
    intro l hl deep hd ao cap w hR
    have hlm := hR.1
    by_cases h21 : deep = 21
    · subst h21; exact base l ao cap w
    · have q0 : decide ((20 : Int) < (deep : Int)) = false := decide_eq_false (by omega)
      have IH := Lib.hid ih
      have HR := Lib.hid hR
      unfold maxLen at hlm
      clear base ih hR
      go_enter Tryd.func37, Tryd.ntmps37
      go_wp2_with fail
      go_loop [5, 6] (fun nv iv => ZInv l deep nv iv) (fun _ iv => l.length - (intOf iv).toNat)
      case atStart => exact ⟨0, 0, Nat.zero_le _, rfl, rfl, by omega, fun _ => ⟨by simp [Rw.cnts], by simp [Rw.dps]; omega⟩⟩
      case round =>
        obtain ⟨j, m, hj, rfl, rfl, hm1, hm2⟩ := hrel
        have HM := Lib.hid hm2
        clear hm2
        by_cases hlt : j < l.length
        · have q1 : decide ((j : Int) < (l.length : Int)) = true := decide_eq_true (by omega)
          by_cases h60 : m ≤ 60
          · have q2 : decide ((m : Int) ≤ 60) = true := decide_eq_true (by omega)
            obtain ⟨b, k, n, po, pl, pc, rfl, hlj, c0, c1, c2, i1, i2, hpl⟩ := HR.out.get j hlt
            have HP := Lib.hid hpl
            have hcj := cnts_get l j hlt
            have hct := cnts_take l j hlt
            have hdt := dps_take l j hlt
            rw [hlj] at hcj hct hdt
            simp only [Rw.cnt, Rw.dp] at hcj hct hdt
            have HT := Lib.hid hct
            have HDT := Lib.hid hdt
            clear hpl hlj hct hdt c0 c1
            go_wp2_with fail
            refine (IH.out pl (by omega) (deep + 1) (by omega) po pc w HP.out).mono ?_
            rintro e w' ⟨r, rfl, hr1, hr2, rfl⟩
            have HN := Lib.hid (show m + 1 + r ≤ 60 → Rw.cnts (l.take (j + 1)) = m + 1 + r ∧ Rw.dps (l.take (j + 1)) + deep ≤ 21 by
              intro h
              have h1 := HM.out (by omega)
              have h2 := hr2 (by omega)
              refine ⟨by rw [HT.out, h1.1, h2.1]; omega, ?_⟩
              rw [HDT.out]; omega)
            have hb : m + 1 + r ≤ 1000 + 61 * (21 - deep) := by omega
            have hsm : m + 1 + r ≤ 100000 := by omega
            clear hr1 hr2
            go_wp2_with fail
            go_round
            case rel => exact ⟨j + 1, m + 1 + r, by omega, by go_num, by go_num, hb, HN.out⟩
            case measure => simp [intOf]; omega
          · have q2 : decide ((m : Int) ≤ 60) = false := decide_eq_false (by omega)
            go_wp2_with fail
            go_ret
            exact ⟨m, rfl, hm1, fun h => absurd h (by omega), rfl⟩
        · obtain rfl : j = l.length := by omega
          have HE : Hid (m ≤ 60 → Rw.cnts l = m ∧ Rw.dps l + deep ≤ 21) := by
            have h := HM.out
            have e : l.take l.length = l := List.take_length
            rw [e] at h; exact h
          clear hlt
          go_wp2_with fail
          go_ret
          exact ⟨m, rfl, hm1, HE.out, rfl⟩

/-- Whether they are few. -/
def RetFew (l : List Rw) (w : World) (e : Ending) (w' : World) : Prop := ∃ r : Bool, e = .returned (.bool r) ∧ (r = true → Rw.cnts l ≤ 60 ∧ Rw.dps l ≤ 21) ∧ w = w'
theorem few_any (l : List Rw) (ao : Option Addr) (cap : Nat) (w : World) (hR : RsAt w ao l) : Calls Tryd.prog 19 #[.slice ao l.length cap] w (RetFew l w) := by
  have HR := Lib.hid (rsize _ l (Nat.le_refl _) 0 (by decide) ao cap w hR)
  clear hR
  go_enter Tryd.func19, Tryd.ntmps19
  go_wp2_with fail
  refine HR.out.mono ?_
  rintro e w' ⟨r, rfl, hr1, hr2, rfl⟩
  have HN := Lib.hid hr2
  clear hr1 hr2
  by_cases h60 : r ≤ 60
  · have q : decide ((r : Int) ≤ 60) = true := decide_eq_true (by omega)
    go_wp2
    go_ret
    exact ⟨true, rfl, fun _ => by have := HN.out h60; omega, rfl⟩
  · have q : decide ((r : Int) ≤ 60) = false := decide_eq_false (by omega)
    go_wp2
    go_ret
    exact ⟨false, rfl, (fun h => by cases h), rfl⟩
end Go.Proofs.YtkjcbaikebdmmaaDoor
