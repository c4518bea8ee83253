/- Contracts of row and gap. -/
import Derived.Test.YtkjcbaikebdmmaaDoorL1
namespace Go.Proofs.YtkjcbaikebdmmaaDoor
open Go.RowKit Go.BigM
set_option linter.unusedVariables false
set_option linter.unusedSimpArgs false

/-- How many bytes from the beginning on are of a set. -/
def rowOf (set : List UInt8) (l : List UInt8) : Nat := (l.takeWhile set.contains).length
theorem rowOf_le (set l : List UInt8) : rowOf set l ≤ l.length := by unfold rowOf; exact (List.takeWhile_prefix _).length_le
theorem rowOf_end (set : List UInt8) : ∀ (l : List UInt8) (k : Nat), k ≤ l.length → (∀ i (h : i < l.length), i < k → set.contains l[i] = true) → (∀ h : k < l.length, set.contains l[k] = false) → rowOf set l = k
  | [], k, hk, _, _ => by simp at hk; simp [rowOf, hk]
  | c :: l, 0, _, _, h => by
    have := h (by simp)
    simp only [List.getElem_cons_zero] at this
    unfold rowOf; rw [List.takeWhile_cons, this]; rfl
  | c :: l, k + 1, hk, hin, hout => by
    have h0 := hin 0 (by simp) (by omega)
    simp only [List.getElem_cons_zero] at h0
    have ih := rowOf_end set l k (by simpa using hk) (fun i h1 h2 => by have := hin (i + 1) (by simpa using h1) (by omega); simpa using this) (fun h => by have := hout (by simpa using h); simpa using this)
    unfold rowOf at ih ⊢
    rw [List.takeWhile_cons, if_pos h0, List.length_cons, ih]
def RInv (set s : ByteArray) (iv : Value) (w wr : World) : Prop := ∃ k : Nat, k ≤ s.size ∧ iv = .int .i64 k ∧ (∀ i (h : i < s.size), i < k → set.data.toList.contains s[i] = true) ∧ wr = w
theorem row_any (s set : ByteArray) (w : World) (hs : s.size ≤ 8000) :
    Calls Tryd.prog 45 #[.string s, .string set] w fun e w' => e = .returned (.int .i64 (rowOf set.data.toList s.data.toList)) ∧ w = w' := by
  go_enter Tryd.func45, Tryd.ntmps45
  go_wp2
  go_loopw [5] (fun iv wr => RInv set s iv w wr) (fun iv _ => s.size - (intOf iv).toNat)
  case atStart => exact ⟨0, Nat.zero_le _, rfl, fun i _ h => absurd h (by omega), rfl⟩
  case round =>
    obtain ⟨k, hk, rfl, hin, rfl⟩ := hrel
    have HI := Lib.hid hin
    clear hin
    by_cases hlt : k < s.size
    · have q1 : decide ((k : Int) < (s.size : Int)) = true := decide_eq_true (by omega)
      obtain ⟨b, hb⟩ : ∃ b, set.data.toList.contains s[k] = b := ⟨_, rfl⟩
      have HB := Lib.hid hb
      clear hb
      go_wp2_with fail
      refine (isin_any set s[k] b HB.out _).mono ?_
      rintro e w' ⟨r, rfl, hr, rfl⟩
      cases b with
      | true =>
        go_wp2_with fail
        go_roundw
        case rel => exact ⟨k + 1, by omega, by go_num, fun i h1 h2 => by
          by_cases hik : i = k
          · subst hik; exact HB.out
          · exact HI.out i h1 (by omega), rfl⟩
        case measure => simp [intOf]; omega
      | false =>
        have HE : Hid (rowOf set.data.toList s.data.toList = k) := rowOf_end _ _ _ (by rw [← Lib.size_eq]; exact hk) (fun i h1 h2 => HI.out i (by rw [Lib.size_eq]; exact h1) h2) (fun _ => HB.out)
        go_wp2_with fail
        go_ret
        exact ⟨by rw [HE.out]; rfl, rfl⟩
    · obtain rfl : k = s.size := by omega
      have q1 : decide ((s.size : Int) < (s.size : Int)) = false := decide_eq_false (by omega)
      have HE : Hid (rowOf set.data.toList s.data.toList = s.size) := rowOf_end _ _ _ (by rw [← Lib.size_eq]; exact hk) (fun i h1 h2 => HI.out i (by rw [Lib.size_eq]; exact h1) (by rw [Lib.size_eq]; exact h1)) (fun h => absurd h (by rw [← Lib.size_eq]; omega))
      go_wp2_with fail
      go_ret
      exact ⟨by rw [HE.out]; rfl, rfl⟩

/-- How many bytes from the beginning on do not count; r: within a remark. -/
def gapOf : Bool → List UInt8 → Nat
  | _, [] => 0
  | r, c :: l => if (!(c == 59 || (r && c != 10))) && !([9, 10, 32] : List UInt8).contains c then 0 else 1 + gapOf (c == 59 || (r && c != 10)) l
theorem gapOf_le : ∀ (r : Bool) (l : List UInt8), gapOf r l ≤ l.length
  | _, [] => by simp [gapOf]
  | r, c :: l => by
    unfold gapOf
    split
    · simp
    · have := gapOf_le (c == 59 || (r && c != 10)) l
      simp only [List.length_cons]; omega
/-- Is the walk within a remark, so many bytes on? -/
def remOf (l : List UInt8) : Nat → Bool
  | 0 => false
  | k + 1 => match l[k]? with | some c => c == 59 || (remOf l k && c != 10) | none => false
def GInv (s : ByteArray) (rv iv : Value) (w wr : World) : Prop := ∃ (k : Nat) (r : Bool), k ≤ s.size ∧ iv = .int .i64 k ∧ rv = .bool r ∧ gapOf false s.data.toList = k + gapOf r (s.data.toList.drop k) ∧ wr = w
theorem byte_eq (a b : UInt8) : ((a.toNat : Int) == (b.toNat : Int)) = (a == b) := by
  rw [Bool.eq_iff_iff, beq_iff_eq, beq_iff_eq]
  constructor
  · intro h; exact UInt8.toNat_inj.1 (by omega)
  · rintro rfl; rfl
set_option maxHeartbeats 1000000 in
theorem gap_any (s : ByteArray) (w : World) (hs : s.size ≤ 8000) :
    Calls Tryd.prog 28 #[.string s] w fun e w' => e = .returned (.int .i64 (gapOf false s.data.toList)) ∧ w = w' := by
  go_enter Tryd.func28, Tryd.ntmps28
  go_wp2_with fail
  go_loopw [3, 7] (fun rv iv wr => GInv s rv iv w wr) (fun _ iv _ => s.size - (intOf iv).toNat)
  case atStart => exact ⟨0, false, Nat.zero_le _, rfl, rfl, by simp, rfl⟩
  case round =>
    obtain ⟨k, r, hk, rfl, rfl, hg, rfl⟩ := hrel
    have HG := Lib.hid hg
    clear hg
    by_cases hlt : k < s.size
    · have q1 : decide ((k : Int) < (s.size : Int)) = true := decide_eq_true (by omega)
      have hd : s.data.toList.drop k = s[k] :: s.data.toList.drop (k + 1) := by
        rw [List.drop_eq_getElem_cons (by rw [← Lib.size_eq]; exact hlt)]; rfl
      obtain ⟨c, hc⟩ : ∃ c, s[k] = c := ⟨_, rfl⟩
      rw [hc] at hd
      have b1 := byte_eq c 59
      have b2 := byte_eq c 10
      obtain ⟨e1, he1⟩ : ∃ b, (c == 59) = b := ⟨_, rfl⟩
      obtain ⟨e2, he2⟩ : ∃ b, (c == 10) = b := ⟨_, rfl⟩
      obtain ⟨e3, he3⟩ : ∃ b, ([9, 10, 32] : List UInt8).contains c = b := ⟨_, rfl⟩
      have hgc : gapOf r (s.data.toList.drop k) = if (!(e1 || (r && !e2))) && !e3 then 0 else 1 + gapOf (e1 || (r && !e2)) (s.data.toList.drop (k + 1)) := by
        rw [hd, gapOf, he1, he3, bne, he2]
      have q2 : ((c.toNat : Int) == 59) = e1 := by rw [← he1]; exact b1
      have q3 : ((c.toNat : Int) != 10) = !e2 := by rw [bne, ← he2]; congr 1
      have FI := Lib.hid (fun w => isin_any ⟨#[9, 10, 32]⟩ c e3 he3 w)
      have HGC := Lib.hid hgc
      have HC := Lib.hid hc
      clear hd b1 b2 he1 he2 he3 hgc
      rcases e1 with _ | _ <;> rcases r with _ | _ <;> rcases e2 with _ | _
      · skip
        go_wp2_with fail
        refine (FI.out _).mono ?_
        rintro e w' ⟨r', rfl, hr, rfl⟩
        cases e3 with
        | true =>
          have q5 : decide (r' < 0) = false := by rw [decide_eq_true_eq] at hr; exact decide_eq_false (by omega)
          go_wp2_with fail
          go_roundw
          case rel => exact ⟨k + 1, false, by omega, by go_num, rfl, by rw [HG.out, HGC.out]; simp; omega, rfl⟩
          case measure => simp [intOf]; omega
        | false =>
          have q5 : decide (r' < 0) = true := by rw [decide_eq_false_iff_not] at hr; exact decide_eq_true (by omega)
          have HE : Hid (gapOf false s.data.toList = k) := by show _ = _; rw [HG.out, HGC.out]; simp
          go_wp2_with fail
          go_ret
          exact ⟨by rw [HE.out]; rfl, rfl⟩
      · skip
        go_wp2_with fail
        refine (FI.out _).mono ?_
        rintro e w' ⟨r', rfl, hr, rfl⟩
        cases e3 with
        | true =>
          have q5 : decide (r' < 0) = false := by rw [decide_eq_true_eq] at hr; exact decide_eq_false (by omega)
          go_wp2_with fail
          go_roundw
          case rel => exact ⟨k + 1, false, by omega, by go_num, rfl, by rw [HG.out, HGC.out]; simp; omega, rfl⟩
          case measure => simp [intOf]; omega
        | false =>
          have q5 : decide (r' < 0) = true := by rw [decide_eq_false_iff_not] at hr; exact decide_eq_true (by omega)
          have HE : Hid (gapOf false s.data.toList = k) := by show _ = _; rw [HG.out, HGC.out]; simp
          go_wp2_with fail
          go_ret
          exact ⟨by rw [HE.out]; rfl, rfl⟩
      · skip
        go_wp2_with fail
        go_roundw
        case rel => exact ⟨k + 1, true, by omega, by go_num, rfl, by rw [HG.out, HGC.out]; simp; omega, rfl⟩
        case measure => simp [intOf]; omega
      · skip
        go_wp2_with fail
        refine (FI.out _).mono ?_
        rintro e w' ⟨r', rfl, hr, rfl⟩
        cases e3 with
        | true =>
          have q5 : decide (r' < 0) = false := by rw [decide_eq_true_eq] at hr; exact decide_eq_false (by omega)
          go_wp2_with fail
          go_roundw
          case rel => exact ⟨k + 1, false, by omega, by go_num, rfl, by rw [HG.out, HGC.out]; simp; omega, rfl⟩
          case measure => simp [intOf]; omega
        | false =>
          have q5 : decide (r' < 0) = true := by rw [decide_eq_false_iff_not] at hr; exact decide_eq_true (by omega)
          have HE : Hid (gapOf false s.data.toList = k) := by show _ = _; rw [HG.out, HGC.out]; simp
          go_wp2_with fail
          go_ret
          exact ⟨by rw [HE.out]; rfl, rfl⟩
      · skip
        go_wp2_with fail
        go_roundw
        case rel => exact ⟨k + 1, true, by omega, by go_num, rfl, by rw [HG.out, HGC.out]; simp; omega, rfl⟩
        case measure => simp [intOf]; omega
      · skip
        go_wp2_with fail
        go_roundw
        case rel => exact ⟨k + 1, true, by omega, by go_num, rfl, by rw [HG.out, HGC.out]; simp; omega, rfl⟩
        case measure => simp [intOf]; omega
      · skip
        go_wp2_with fail
        go_roundw
        case rel => exact ⟨k + 1, true, by omega, by go_num, rfl, by rw [HG.out, HGC.out]; simp; omega, rfl⟩
        case measure => simp [intOf]; omega
      · skip
        go_wp2_with fail
        go_roundw
        case rel => exact ⟨k + 1, true, by omega, by go_num, rfl, by rw [HG.out, HGC.out]; simp; omega, rfl⟩
        case measure => simp [intOf]; omega
    · obtain rfl : k = s.size := by omega
      have q1 : decide ((s.size : Int) < (s.size : Int)) = false := decide_eq_false (by omega)
      have HE : Hid (gapOf false s.data.toList = s.size) := by
        show _ = _
        rw [HG.out, List.drop_eq_nil_of_le (by rw [← Lib.size_eq]; exact Nat.le_refl _)]; simp [gapOf]
      go_wp2_with fail
      go_ret
      exact ⟨by rw [HE.out]; rfl, rfl⟩
end Go.Proofs.YtkjcbaikebdmmaaDoor
