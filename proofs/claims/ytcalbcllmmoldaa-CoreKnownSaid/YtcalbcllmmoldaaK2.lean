/- within; the walk of CoreTable. -/
import Derived.Test.YtcalbcllmmoldaaK1
namespace Go.Proofs.Ytcalbcllmmoldaa
open Go.RowKit Go.BigM
set_option linter.unusedVariables false
set_option linter.unusedSimpArgs false
theorem within_any (a n : Int) (w : World) (h1 : -9223372036854775808 ≤ a) (h2 : a ≤ 9223372036854775807) (h3 : 1 ≤ n) (h4 : n ≤ 4000000000) :
    Calls Try.prog 26 #[.int .i64 a, .int .i64 n] w fun e w' => e = .returned (.int .i64 (a % n)) ∧ w = w' := by
  have hr := Int.emod_nonneg a (show n ≠ 0 by omega)
  have hl := Int.emod_lt_of_pos a (show 0 < n by omega)
  by_cases h : 0 ≤ a
  · have ht := Int.tmod_eq_emod_of_nonneg (b := n) h
    go_enter Try.func26, Try.ntmps26
    go_wp2
    go_ret
    exact ⟨rfl, rfl⟩
  · by_cases hd : a % n = 0
    · have ht : a.tmod n = 0 := by rw [Int.tmod_eq_emod, if_pos (Or.inr (Int.dvd_of_emod_eq_zero hd))]; omega
      go_enter Try.func26, Try.ntmps26
      go_wp2
      go_ret
      exact ⟨ret_int (by omega), rfl⟩
    · have ht : a.tmod n = a % n - n := by
        rw [Int.tmod_eq_emod, if_neg]
        · omega
        · rintro (h' | h')
          · exact h h'
          · exact hd (Int.emod_eq_zero_of_dvd h')
      have ht2 : a % n - n < 0 := by omega
      clear hd
      go_enter Try.func26, Try.ntmps26
      go_wp2
      go_ret
      exact ⟨ret_int (by omega), rfl⟩


/-- Some number from 0 to n - 1 comes back. -/
def SomeR (n : Nat) (w : World) (e : Ending) (w' : World) : Prop := ∃ r : Nat, r < n ∧ e = .returned (.int .i64 r) ∧ w = w'
def I64 (a : Int) : Prop := -9223372036854775808 ≤ a ∧ a ≤ 9223372036854775807
theorem wf_I64 (a : Int) (h : (Lit.int .i64 a).wf = true) : I64 a := by
  simpa [Lit.wf, IntKind.min, IntKind.max, IntKind.signed, IntKind.bits, I64] using h
theorem within_some (a : Int) (n : Nat) (ha : I64 a) (h1 : 1 ≤ n) (h2 : n ≤ 1000) (w : World) : Calls Try.prog 26 #[.int .i64 a, .int .i64 n] w (SomeR n w) := by
  refine (within_any a n w ha.1 ha.2 (by omega) (by omega)).mono ?_
  rintro e w' ⟨he, hw⟩
  have h3 := Int.emod_nonneg a (show (n : Int) ≠ 0 by omega)
  have h4 := Int.emod_lt_of_pos a (show (0 : Int) < n by omega)
  exact ⟨(a % n).toNat, by omega, by rw [he]; exact ret_int (by omega), hw⟩
/-- What is known of a slice of integers that came in: it is nil, or leads to a row of so many cells. -/
def IsRow (k : IntKind) (w : World) (a : Option Addr) (len cap : Nat) (zs : List Int) : Prop :=
  (a = none ∧ len = 0 ∧ cap = 0 ∧ zs = []) ∨
  ∃ x, a = some x ∧ len ≤ cap ∧ cap ≤ maxLen ∧ zs.length = cap ∧ (∀ i, i < zs.length → w.cell? (x.add i) = some (.int k (zs.getD i 0))) ∧ ∀ n ∈ zs, (Lit.int k n).wf = true

theorem within_is (a : Int) (n : Nat) (q : Int) (ha : I64 a) (h1 : 1 ≤ n) (h2 : n ≤ 1000) (hq : a % n = q) (w : World) : Calls Try.prog 26 #[.int .i64 a, .int .i64 n] w fun e w' => e = .returned (.int .i64 q) ∧ w = w' := by
  subst hq
  exact within_any a n w ha.1 ha.2 (by omega) (by omega)
def tabT : List ByteArray := [⟨#[43]⟩, ⟨#[45]⟩, ⟨#[42]⟩, ⟨#[113, 117, 111, 116, 105, 101, 110, 116]⟩, ⟨#[114, 101, 109, 97, 105, 110, 100, 101, 114]⟩, ⟨#[60]⟩, ⟨#[61]⟩, ⟨#[101, 113, 63]⟩, ⟨#[99, 111, 110, 115]⟩, ⟨#[115, 101, 113]⟩, ⟨#[99, 97, 114]⟩, ⟨#[99, 100, 114]⟩, ⟨#[110, 117, 108, 108, 63]⟩, ⟨#[112, 97, 105, 114, 63]⟩, ⟨#[110, 111, 116]⟩, ⟨#[105, 110, 116, 101, 103, 101, 114, 63]⟩, ⟨#[115, 121, 109, 98, 111, 108, 63]⟩, ⟨#[101, 114, 114, 111, 114]⟩, ⟨#[]⟩, ⟨#[108, 97, 109, 98, 100, 97]⟩, ⟨#[105, 102]⟩, ⟨#[67, 97, 114]⟩, ⟨#[43, 32]⟩, ⟨#[105, 110, 112, 117, 116]⟩]
theorem tabT_get (k : Nat) (h : k < 24) : arity (tabT.getD k ⟨#[]⟩) = if k < 10 then 2 else if k < 18 then 1 else 0 := by
  match k, h with
  | 0, _ => simp [tabT, arity, arityIn, prims, Lib.toList_data]
  | 1, _ => simp [tabT, arity, arityIn, prims, Lib.toList_data]
  | 2, _ => simp [tabT, arity, arityIn, prims, Lib.toList_data]
  | 3, _ => simp [tabT, arity, arityIn, prims, Lib.toList_data]
  | 4, _ => simp [tabT, arity, arityIn, prims, Lib.toList_data]
  | 5, _ => simp [tabT, arity, arityIn, prims, Lib.toList_data]
  | 6, _ => simp [tabT, arity, arityIn, prims, Lib.toList_data]
  | 7, _ => simp [tabT, arity, arityIn, prims, Lib.toList_data]
  | 8, _ => simp [tabT, arity, arityIn, prims, Lib.toList_data]
  | 9, _ => simp [tabT, arity, arityIn, prims, Lib.toList_data]
  | 10, _ => simp [tabT, arity, arityIn, prims, Lib.toList_data]
  | 11, _ => simp [tabT, arity, arityIn, prims, Lib.toList_data]
  | 12, _ => simp [tabT, arity, arityIn, prims, Lib.toList_data]
  | 13, _ => simp [tabT, arity, arityIn, prims, Lib.toList_data]
  | 14, _ => simp [tabT, arity, arityIn, prims, Lib.toList_data]
  | 15, _ => simp [tabT, arity, arityIn, prims, Lib.toList_data]
  | 16, _ => simp [tabT, arity, arityIn, prims, Lib.toList_data]
  | 17, _ => simp [tabT, arity, arityIn, prims, Lib.toList_data]
  | 18, _ => simp [tabT, arity, arityIn, prims, Lib.toList_data]
  | 19, _ => simp [tabT, arity, arityIn, prims, Lib.toList_data]
  | 20, _ => simp [tabT, arity, arityIn, prims, Lib.toList_data]
  | 21, _ => simp [tabT, arity, arityIn, prims, Lib.toList_data]
  | 22, _ => simp [tabT, arity, arityIn, prims, Lib.toList_data]
  | 23, _ => simp [tabT, arity, arityIn, prims, Lib.toList_data]
  | n + 24, h => exact absurd h (by omega)
set_option maxHeartbeats 4000000 in
set_option maxRecDepth 100000 in
theorem table_walk (a0 : Int) (w : World) (h0 : I64 a0) : Calls Try.prog 6 #[.int .i64 a0] w (RetBool true w) := by
  have F0 := Lib.hid (fun w => known_any w)
  have F1 := Lib.hid (fun w => within_some a0 24 h0 (by decide) (by decide) w)
  have HW : ∀ W : World, W.alloc (.cells #[.string ⟨#[43]⟩, .string ⟨#[45]⟩, .string ⟨#[42]⟩, .string ⟨#[113, 117, 111, 116, 105, 101, 110, 116]⟩, .string ⟨#[114, 101, 109, 97, 105, 110, 100, 101, 114]⟩, .string ⟨#[60]⟩, .string ⟨#[61]⟩, .string ⟨#[101, 113, 63]⟩, .string ⟨#[99, 111, 110, 115]⟩, .string ⟨#[115, 101, 113]⟩, .string ⟨#[99, 97, 114]⟩, .string ⟨#[99, 100, 114]⟩, .string ⟨#[110, 117, 108, 108, 63]⟩, .string ⟨#[112, 97, 105, 114, 63]⟩, .string ⟨#[110, 111, 116]⟩, .string ⟨#[105, 110, 116, 101, 103, 101, 114, 63]⟩, .string ⟨#[115, 121, 109, 98, 111, 108, 63]⟩, .string ⟨#[101, 114, 114, 111, 114]⟩, .string ⟨#[]⟩, .string ⟨#[108, 97, 109, 98, 100, 97]⟩, .string ⟨#[105, 102]⟩, .string ⟨#[67, 97, 114]⟩, .string ⟨#[43, 32]⟩, .string ⟨#[105, 110, 112, 117, 116]⟩] 9) = W.alloc (.cells (tcells tabT) 9) := fun _ => rfl
  have HWW := Lib.hid HW
  clear HW h0
  go_enter Try.func6, Try.ntmps6
  go_wp2_with fail
  refine (F0.out _).mono ?_
  rintro e w1 ⟨rfl, hb⟩
  have B1 := Lib.hid hb
  clear hb
  go_wp2_with fail
  rw [HWW.out]
  have HG := Lib.hid (alloc_at w1 (.cells (tcells tabT) 9))
  have B2 := Lib.hid (B1.out.alloc B1.out.size (.cells (tcells tabT) 9))
  generalize w1.alloc (.cells (tcells tabT) 9) = W at HG B2 ⊢
  refine (F1.out _).mono ?_
  rintro e w2 ⟨k, hk, rfl, rfl⟩
  have e0 := tcells_get _ _ tabT HG.out k hk
  have ha := tabT_get k hk
  obtain ⟨p, hp⟩ : ∃ p, tabT.getD k ⟨#[]⟩ = p := ⟨_, rfl⟩
  rw [hp] at e0 ha
  have FA := Lib.hid (fun w => arity_any p w)
  unfold RetSame at FA
  rw [ha] at FA
  clear ha hp HWW
  by_cases h10 : k < 10
  · have q1 : decide ((k : Int) < 10) = true := decide_eq_true (by omega)
    rw [if_pos h10] at FA
    go_wp2_with fail
    refine (FA.out _).mono ?_
    rintro e w3 ⟨rfl, rfl⟩
    go_wp2_with fail
    go_ret
    exact ⟨rfl, B2.out⟩
  · have q1 : decide ((k : Int) < 10) = false := decide_eq_false (by omega)
    rw [if_neg h10] at FA
    by_cases h18 : k < 18
    · have q2 : decide ((k : Int) < 18) = true := decide_eq_true (by omega)
      rw [if_pos h18] at FA
      go_wp2_with fail
      refine (FA.out _).mono ?_
      rintro e w3 ⟨rfl, rfl⟩
      go_wp2_with fail
      go_ret
      exact ⟨rfl, B2.out⟩
    · have q2 : decide ((k : Int) < 18) = false := decide_eq_false (by omega)
      rw [if_neg h18] at FA
      go_wp2_with fail
      refine (FA.out _).mono ?_
      rintro e w3 ⟨rfl, rfl⟩
      go_wp2_with fail
      go_ret
      exact ⟨rfl, B2.out⟩
end Go.Proofs.Ytcalbcllmmoldaa
