/- The contract of the document's Arity; of apart. -/
import Derived.Test.YtcalbcllmmoldaaA2
import Derived.Maps.OwnSet
namespace Go.Proofs.Ytcalbcllmmoldaa
open Go.RowKit
set_option linter.unusedVariables false
set_option linter.unusedSimpArgs false
def primB : List ByteArray := prims.map fun l => ⟨l.toArray⟩
theorem primB_len : primB.length = 18 := rfl
theorem primB_get (j : Nat) (h : j < 18) : ∃ p, primB.getD j ⟨#[]⟩ = p ∧ prims.drop j = p.toList :: prims.drop (j + 1) := by
  refine ⟨_, rfl, ?_⟩
  have hl : j < prims.length := h
  rw [List.drop_eq_getElem_cons hl]
  congr 1
  unfold primB
  rw [Lib.toList_data, List.getD_eq_getElem?_getD, List.getElem?_map, List.getElem?_eq_getElem hl]
  simp
def ArInv (t : ByteArray) (w : World) (g : Nat) (iv : Value) (wr : World) : Prop :=
  ∃ j : Nat, j ≤ 18 ∧ iv = .int .i64 (j : Int) ∧ arityIn (prims.drop j) j t = arity t ∧ wr.heap[g]? = some (.cells (tcells primB) 9 (0, 0)) ∧ Below w.heap.size w wr
set_option maxHeartbeats 4000000 in
set_option maxRecDepth 100000 in
theorem refarity_any (t : ByteArray) (w : World) : Calls Try.prog 18 #[.string t] w (RetInt (arity t : Nat) w) := by
  have HB0 := (Below.refl w.heap.size w).alloc (Nat.le_refl _) (.cells (tcells primB) 9)
  have HA0 : (w.alloc (.cells (tcells primB) 9)).heap[w.heap.size]? = some (.cells (tcells primB) 9 (0, 0)) := alloc_at _ _
  have H0 : Hid (ArInv t w w.heap.size (.int .i64 0) (w.alloc (.cells (tcells primB) 9))) := ⟨0, by omega, rfl, rfl, HA0, HB0⟩
  have HW : w.alloc (.cells #[.string ⟨#[43]⟩, .string ⟨#[45]⟩, .string ⟨#[42]⟩, .string ⟨#[113, 117, 111, 116, 105, 101, 110, 116]⟩, .string ⟨#[114, 101, 109, 97, 105, 110, 100, 101, 114]⟩, .string ⟨#[60]⟩, .string ⟨#[61]⟩, .string ⟨#[101, 113, 63]⟩, .string ⟨#[99, 111, 110, 115]⟩, .string ⟨#[115, 101, 113]⟩, .string ⟨#[99, 97, 114]⟩, .string ⟨#[99, 100, 114]⟩, .string ⟨#[110, 117, 108, 108, 63]⟩, .string ⟨#[112, 97, 105, 114, 63]⟩, .string ⟨#[110, 111, 116]⟩, .string ⟨#[105, 110, 116, 101, 103, 101, 114, 63]⟩, .string ⟨#[115, 121, 109, 98, 111, 108, 63]⟩, .string ⟨#[101, 114, 114, 111, 114]⟩] 9) = w.alloc (.cells (tcells primB) 9) := rfl
  have HWW := Lib.hid HW
  clear HB0 HA0 HW
  go_enter Try.func18, Try.ntmps18
  go_wp2_with fail
  rw [HWW.out]
  generalize w.alloc (.cells (tcells primB) 9) = W at H0 ⊢
  clear HWW
  obtain ⟨g0, hg⟩ : ∃ g0, w.heap.size = g0 := ⟨_, rfl⟩
  rw [hg] at H0
  simp only [hg]
  go_loopw [4] (fun iv wr => ArInv t w g0 iv wr) (fun iv _ => 18 - (intOf iv).toNat)
  case atStart => exact H0.out
  case round =>
    clear H0
    obtain ⟨j, hj, rfl, har, hg0, hb⟩ := hrel
    have HB := Lib.hid hb
    have HG := Lib.hid hg0
    clear hb
    by_cases hlt : j < 18
    · have q1 : decide ((j : Int) < 18) = true := decide_eq_true (by omega)
      obtain ⟨p, hp, hd⟩ := primB_get j hlt
      have e0 := tcells_get wr g0 primB hg0 j hlt
      rw [hp] at e0
      rw [hd] at har
      by_cases he : p = t
      · subst he
        have q2 : (p.toList == p.toList) = true := by simp
        by_cases h10 : j < 10
        · have q3 : decide ((j : Int) < 10) = true := decide_eq_true (by omega)
          have HE : Hid (((arity p : Nat) : Int) = 2) := by show _ = _; rw [← har]; simp [arityIn, h10]
          clear har hp hd hg0
          go_wp2_with fail
          go_ret
          exact ⟨by rw [HE.out]; rfl, HB.out⟩
        · have q3 : decide ((j : Int) < 10) = false := decide_eq_false (by omega)
          have HE : Hid (((arity p : Nat) : Int) = 1) := by show _ = _; rw [← har]; simp [arityIn, h10]
          clear har hp hd hg0
          go_wp2_with fail
          go_ret
          exact ⟨by rw [HE.out]; rfl, HB.out⟩
      · have q2 : (p.toList == t.toList) = false := by rw [str_eq]; exact decide_eq_false he
        have q2' : (t.toList == p.toList) = false := by rw [str_eq]; exact decide_eq_false (fun e => he e.symm)
        have HE : Hid (arityIn (prims.drop (j + 1)) (j + 1) t = arity t) := by show _ = _; rw [← har]; simp [arityIn, q2']
        clear har hp hd hg0 q2' he
        go_wp2_with fail
        go_roundw
        case rel => exact ⟨j + 1, by omega, by go_num, HE.out, HG.out, HB.out⟩
        case measure => simp [intOf]; omega
    · have hj18 : j = 18 := by omega
      have q1 : decide ((j : Int) < 18) = false := decide_eq_false (by omega)
      have HE : Hid (((arity t : Nat) : Int) = 0) := by show _ = _; rw [← har, hj18]; rfl
      clear hj18 har hg0
      go_wp2_with fail
      go_ret
      exact ⟨by rw [HE.out]; rfl, HB.out⟩
end Go.Proofs.Ytcalbcllmmoldaa
