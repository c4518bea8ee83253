/- The contract of All. -/
import Derived.Test.YtkjcbaikebdmmaaDoorW7
namespace Go.Proofs.YtkjcbaikebdmmaaDoor
open Go.RowKit
set_option linter.unusedVariables false
set_option linter.unusedSimpArgs false

def RetAll (l : List Rw) (w : World) (e : Ending) (w' : World) : Prop := ∃ v, e = .returned v ∧ OwnD w.heap.size w' v (Rw.makes l) ∧ Below w.heap.size w w'
def AInv (l : List Rw) (w : World) (sv iv : Value) (wr : World) : Prop := ∃ j : Nat, j ≤ l.length ∧ iv = .int .i64 j ∧ OwnD w.heap.size wr sv (Rw.makes (l.take j)) ∧ Below w.heap.size w wr

set_option maxHeartbeats 4000000 in
set_option maxRecDepth 100000 in
theorem all_any (l : List Rw) (hl : Rw.cnts l ≤ 1000000) (ao : Option Addr) (ac : Nat) (w : World) (hR : RsAt w ao l) :
    Calls Tryd.prog 20 #[.slice ao l.length ac] w (RetAll l w) := by
  have hll := length_cnts l
  have hl1 : l.length ≤ 1000000 := by omega
  have HR := Lib.hid hR
  have HC := Lib.hid hl
  clear hR hl hll
  go_enter Tryd.func20, Tryd.ntmps20
  go_wp2_with fail
  go_loopw [3, 4] (fun sv iv wr => AInv l w sv iv wr) (fun _ iv _ => l.length - (intOf iv).toNat)
  case atStart => exact ⟨0, Nat.zero_le _, rfl, OwnD.nil _ _, Below.refl _ _⟩
  case round =>
    obtain ⟨j, hj, rfl, hown, hbel⟩ := hrel
    have HO := Lib.hid hown
    have HB := Lib.hid hbel
    clear hown hbel
    by_cases hlt : j < l.length
    · have q1 : decide ((j : Int) < (l.length : Int)) = true := decide_eq_true (by omega)
      obtain ⟨b, k', n', po, pl, pc, rfl, hlj, c0, c1, c2, i1, i2, hpl⟩ := (HR.out.below HB.out).get j hlt
      have hcj := cnts_get l j hlt
      have hd : l[j].make = (Rw.mk k' n' pl).make := by rw [hlj]
      rw [hlj] at hcj
      simp only [Rw.cnt] at hcj
      have hlm : (Rw.makes (l.take j)).length = j := by rw [makes_length, List.length_take]; omega
      have HX := Lib.hid (make_any 1000000 (by decide) k' n' pl (by have := HC.out; omega) i1 i2 po pc wr hpl)
      have HT := Lib.hid (makes_take l j hlt)
      have HD := Lib.hid hd
      have HLM := Lib.hid hlm
      clear hd hlj hcj i1 i2 hpl hlm
      go_wp2_with fail
      refine HX.out.mono ?_
      rintro e w7 ⟨cs, rfl, hat, hb⟩
      obtain ⟨k5, t5, mv5, lv5, p5, rfl, o1, o2⟩ := At_form hat
      obtain ⟨xs, hown8, hz8, hnx⟩ := all_more HO.out (by rw [HLM.out]; omega) HB.out.size hat hb rfl
      rw [HLM.out] at hown8 hnx
      have HN := Lib.hid hnx
      have HO8 := Lib.hid hown8
      clear hat hb hown8 hnx c0 c1 c2
      go_wp2_with (refine wpList_wanted (by rfl) fun K hK => ?_; refine wp_app (Operand.tmp 11) (Operand.tmp 17) rfl w.heap.size u3 j xs rfl HO8.out w7.heap.size 1 rfl [.int .i64 k5, .string t5, mv5, lv5, .int .i64 p5] rfl (fun i u hu => by rw [Lib.cell_of_heap (alloc_at w7 (.cells #[.int .i64 k5, .string t5, mv5, lv5, .int .i64 p5] 40))]; simpa using hu) (by simp; exact ⟨rfl, rfl, o1, o2, rfl⟩) (by omega) hz8 ?_; intro v' w9 hown9 hg9 hv9; have HM := Lib.hid (HN.out v' w9 hown9 hg9 hv9); clear hown9 hg9 hv9 HN HO8; refine hK _ _ ?_; clear hK K)
      go_roundw
      case rel =>
        refine ⟨j + 1, by omega, by go_num, ?_, HB.out.trans HM.out.1⟩
        rw [HT.out, HD.out]
        exact HM.out.2
      case measure => simp [intOf]; omega
    · obtain rfl : j = l.length := by omega
      have q1 : decide ((l.length : Int) < (l.length : Int)) = false := decide_eq_false (by omega)
      go_wp2_with fail
      go_ret
      refine ⟨_, rfl, ?_, HB.out⟩
      have := HO.out
      rw [List.take_length] at this
      exact this
end Go.Proofs.YtkjcbaikebdmmaaDoor
