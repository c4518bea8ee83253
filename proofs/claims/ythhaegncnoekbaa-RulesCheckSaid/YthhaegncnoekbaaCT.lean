/- Rules: the patterns, the templates, the literals that the laws take by a number. -/
import Derived.Test.YthhaegncnoekbaaYAX
import Derived.Test.YthhaegncnoekbaaYAW
set_option linter.unusedVariables false
set_option linter.unusedSimpArgs false
namespace Go.Proofs.Ythhaegncnoekbaa
open Go Go.RowKit
def lPat : List ByteArray := [⟨#[40, 120, 41]⟩, ⟨#[40, 120, 32, 121, 41]⟩, ⟨#[40, 120, 32, 46, 46, 46, 41]⟩, ⟨#[40, 120, 32, 121, 32, 46, 46, 46, 41]⟩, ⟨#[40, 120, 32, 46, 46, 46, 32, 121, 32, 122, 41]⟩, ⟨#[40, 40, 120, 32, 121, 41, 32, 46, 46, 46, 41]⟩, ⟨#[40, 40, 120, 32, 121, 32, 46, 46, 46, 41, 32, 46, 46, 46, 41]⟩, ⟨#[40, 95, 32, 120, 41]⟩, ⟨#[40, 108, 105, 116, 32, 120, 41]⟩, ⟨#[40, 120, 32, 49, 32, 35, 116, 41]⟩, ⟨#[40, 40, 120, 32, 46, 46, 46, 41, 32, 40, 121, 32, 46, 46, 46, 41, 41]⟩, ⟨#[40, 40, 40, 120, 32, 46, 46, 46, 41, 32, 46, 46, 46, 41, 32, 46, 46, 46, 41]⟩, ⟨#[40, 41]⟩, ⟨#[40, 120, 32, 40, 121, 32, 40, 122, 32, 46, 46, 46, 41, 32, 46, 46, 46, 41, 32, 46, 46, 46, 41]⟩, ⟨#[40, 40, 108, 105, 116, 32, 120, 41, 32, 46, 46, 46, 32, 121, 41]⟩]
def lTem : List ByteArray := [⟨#[120]⟩, ⟨#[40, 120, 41]⟩, ⟨#[40, 120, 32, 121, 41]⟩, ⟨#[40, 120, 32, 46, 46, 46, 41]⟩, ⟨#[40, 102, 32, 120, 32, 46, 46, 46, 41]⟩, ⟨#[40, 40, 120, 32, 121, 41, 32, 46, 46, 46, 41]⟩, ⟨#[40, 120, 32, 40, 121, 32, 46, 46, 46, 41, 32, 46, 46, 46, 41]⟩, ⟨#[40, 40, 120, 32, 121, 32, 46, 46, 46, 41, 32, 46, 46, 46, 41]⟩, ⟨#[40, 40, 40, 120, 32, 46, 46, 46, 41, 32, 46, 46, 46, 41, 32, 46, 46, 46, 41]⟩, ⟨#[40, 121, 32, 120, 32, 46, 46, 46, 32, 122, 41]⟩, ⟨#[40, 108, 101, 116, 32, 40, 40, 120, 32, 121, 41, 32, 46, 46, 46, 41, 32, 122, 41]⟩, ⟨#[40, 40, 122, 32, 46, 46, 46, 41, 32, 46, 46, 46, 41]⟩, ⟨#[49]⟩, ⟨#[40, 41]⟩, ⟨#[40, 97, 32, 40, 120, 32, 122, 41, 32, 46, 46, 46, 41]⟩, ⟨#[40, 120, 32, 46, 46, 46, 32, 121, 32, 46, 46, 46, 41]⟩]
def lLit : List ByteArray := [⟨#[108, 105, 116]⟩, ⟨#[97]⟩, ⟨#[120]⟩]
def pT (k : Nat) : ByteArray := (lPat[k]?).getD ⟨#[]⟩
def mT (k : Nat) : ByteArray := (lTem[k]?).getD ⟨#[]⟩
theorem pT_at (k : Nat) (hk : k < 15) : (#[.string ⟨#[40, 120, 41]⟩, .string ⟨#[40, 120, 32, 121, 41]⟩, .string ⟨#[40, 120, 32, 46, 46, 46, 41]⟩, .string ⟨#[40, 120, 32, 121, 32, 46, 46, 46, 41]⟩, .string ⟨#[40, 120, 32, 46, 46, 46, 32, 121, 32, 122, 41]⟩, .string ⟨#[40, 40, 120, 32, 121, 41, 32, 46, 46, 46, 41]⟩, .string ⟨#[40, 40, 120, 32, 121, 32, 46, 46, 46, 41, 32, 46, 46, 46, 41]⟩, .string ⟨#[40, 95, 32, 120, 41]⟩, .string ⟨#[40, 108, 105, 116, 32, 120, 41]⟩, .string ⟨#[40, 120, 32, 49, 32, 35, 116, 41]⟩, .string ⟨#[40, 40, 120, 32, 46, 46, 46, 41, 32, 40, 121, 32, 46, 46, 46, 41, 41]⟩, .string ⟨#[40, 40, 40, 120, 32, 46, 46, 46, 41, 32, 46, 46, 46, 41, 32, 46, 46, 46, 41]⟩, .string ⟨#[40, 41]⟩, .string ⟨#[40, 120, 32, 40, 121, 32, 40, 122, 32, 46, 46, 46, 41, 32, 46, 46, 46, 41, 32, 46, 46, 46, 41]⟩, .string ⟨#[40, 40, 108, 105, 116, 32, 120, 41, 32, 46, 46, 46, 32, 121, 41]⟩] : Array Value)[k]? = some (.string (pT k)) := by
  rcases (show k = 0 ∨ k = 1 ∨ k = 2 ∨ k = 3 ∨ k = 4 ∨ k = 5 ∨ k = 6 ∨ k = 7 ∨ k = 8 ∨ k = 9 ∨ k = 10 ∨ k = 11 ∨ k = 12 ∨ k = 13 ∨ k = 14 by omega) with rfl | rfl | rfl | rfl | rfl | rfl | rfl | rfl | rfl | rfl | rfl | rfl | rfl | rfl | rfl <;> rfl
theorem mT_at (k : Nat) (hk : k < 16) : (#[.string ⟨#[120]⟩, .string ⟨#[40, 120, 41]⟩, .string ⟨#[40, 120, 32, 121, 41]⟩, .string ⟨#[40, 120, 32, 46, 46, 46, 41]⟩, .string ⟨#[40, 102, 32, 120, 32, 46, 46, 46, 41]⟩, .string ⟨#[40, 40, 120, 32, 121, 41, 32, 46, 46, 46, 41]⟩, .string ⟨#[40, 120, 32, 40, 121, 32, 46, 46, 46, 41, 32, 46, 46, 46, 41]⟩, .string ⟨#[40, 40, 120, 32, 121, 32, 46, 46, 46, 41, 32, 46, 46, 46, 41]⟩, .string ⟨#[40, 40, 40, 120, 32, 46, 46, 46, 41, 32, 46, 46, 46, 41, 32, 46, 46, 46, 41]⟩, .string ⟨#[40, 121, 32, 120, 32, 46, 46, 46, 32, 122, 41]⟩, .string ⟨#[40, 108, 101, 116, 32, 40, 40, 120, 32, 121, 41, 32, 46, 46, 46, 41, 32, 122, 41]⟩, .string ⟨#[40, 40, 122, 32, 46, 46, 46, 41, 32, 46, 46, 46, 41]⟩, .string ⟨#[49]⟩, .string ⟨#[40, 41]⟩, .string ⟨#[40, 97, 32, 40, 120, 32, 122, 41, 32, 46, 46, 46, 41]⟩, .string ⟨#[40, 120, 32, 46, 46, 46, 32, 121, 32, 46, 46, 46, 41]⟩] : Array Value)[k]? = some (.string (mT k)) := by
  rcases (show k = 0 ∨ k = 1 ∨ k = 2 ∨ k = 3 ∨ k = 4 ∨ k = 5 ∨ k = 6 ∨ k = 7 ∨ k = 8 ∨ k = 9 ∨ k = 10 ∨ k = 11 ∨ k = 12 ∨ k = 13 ∨ k = 14 ∨ k = 15 by omega) with rfl | rfl | rfl | rfl | rfl | rfl | rfl | rfl | rfl | rfl | rfl | rfl | rfl | rfl | rfl | rfl <;> rfl
theorem pT_wf : ((List.range 15).all fun k => (oneOf (pT k)).wfb && decide ((oneOf (pT k)).size ≤ 100) && decide ((pT k).size ≤ 100)) = true := by kernel_rfl
theorem mT_wf : ((List.range 16).all fun k => (oneOf (mT k)).wfb && decide ((oneOf (mT k)).size ≤ 100) && decide ((mT k).size ≤ 100)) = true := by kernel_rfl
theorem pT_ok (k : Nat) (hk : k < 15) : (oneOf (pT k)).wf ∧ (oneOf (pT k)).size ≤ 100 ∧ (pT k).size ≤ 100 := by
  have h := List.all_eq_true.1 pT_wf k (List.mem_range.2 hk)
  simp only [Bool.and_eq_true, decide_eq_true_eq] at h
  exact ⟨wfb_is _ h.1.1, h.1.2, h.2⟩
theorem mT_ok (k : Nat) (hk : k < 16) : (oneOf (mT k)).wf ∧ (oneOf (mT k)).size ≤ 100 ∧ (mT k).size ≤ 100 := by
  have h := List.all_eq_true.1 mT_wf k (List.mem_range.2 hk)
  simp only [Bool.and_eq_true, decide_eq_true_eq] at h
  exact ⟨wfb_is _ h.1.1, h.1.2, h.2⟩
theorem mod_nat (a : Int) (n : Nat) (hn : 0 < n) : ∃ k : Nat, (k : Int) = a % n ∧ k < n := by
  have h0 := Int.emod_nonneg a (show (n : Int) ≠ 0 by omega)
  have h1 := Int.emod_lt_of_pos a (show (0 : Int) < n by omega)
  exact ⟨(a % n).toNat, by omega, by omega⟩
def RetStr (s : ByteArray) (w : World) (e : Ending) (w' : World) : Prop := e = .returned (.string s) ∧ Below w.heap.size w w'
set_option maxHeartbeats 4000000 in
set_option maxRecDepth 100000 in
theorem pattern_any (a : Int) (k : Nat) (ha : I64 a) (hk : (k : Int) = a % (15 : Nat)) (hk2 : k < 15) (w : World) : Calls Try.prog 18 #[.int .i64 a] w (RetStr (pT k) w) := by
  have e0 : (w.alloc (.cells #[.string ⟨#[40, 120, 41]⟩, .string ⟨#[40, 120, 32, 121, 41]⟩, .string ⟨#[40, 120, 32, 46, 46, 46, 41]⟩, .string ⟨#[40, 120, 32, 121, 32, 46, 46, 46, 41]⟩, .string ⟨#[40, 120, 32, 46, 46, 46, 32, 121, 32, 122, 41]⟩, .string ⟨#[40, 40, 120, 32, 121, 41, 32, 46, 46, 46, 41]⟩, .string ⟨#[40, 40, 120, 32, 121, 32, 46, 46, 46, 41, 32, 46, 46, 46, 41]⟩, .string ⟨#[40, 95, 32, 120, 41]⟩, .string ⟨#[40, 108, 105, 116, 32, 120, 41]⟩, .string ⟨#[40, 120, 32, 49, 32, 35, 116, 41]⟩, .string ⟨#[40, 40, 120, 32, 46, 46, 46, 41, 32, 40, 121, 32, 46, 46, 46, 41, 41]⟩, .string ⟨#[40, 40, 40, 120, 32, 46, 46, 46, 41, 32, 46, 46, 46, 41, 32, 46, 46, 46, 41]⟩, .string ⟨#[40, 41]⟩, .string ⟨#[40, 120, 32, 40, 121, 32, 40, 122, 32, 46, 46, 46, 41, 32, 46, 46, 46, 41, 32, 46, 46, 46, 41]⟩, .string ⟨#[40, 40, 108, 105, 116, 32, 120, 41, 32, 46, 46, 46, 32, 121, 41]⟩] 9)).cell? ⟨w.heap.size, k, none⟩ = some (.string (pT k)) := by rw [Lib.cell_of_heap (alloc_at _ _)]; exact pT_at k hk2
  have hb := (Below.refl w.heap.size w).alloc (Nat.le_refl _) (.cells #[.string ⟨#[40, 120, 41]⟩, .string ⟨#[40, 120, 32, 121, 41]⟩, .string ⟨#[40, 120, 32, 46, 46, 46, 41]⟩, .string ⟨#[40, 120, 32, 121, 32, 46, 46, 46, 41]⟩, .string ⟨#[40, 120, 32, 46, 46, 46, 32, 121, 32, 122, 41]⟩, .string ⟨#[40, 40, 120, 32, 121, 41, 32, 46, 46, 46, 41]⟩, .string ⟨#[40, 40, 120, 32, 121, 32, 46, 46, 46, 41, 32, 46, 46, 46, 41]⟩, .string ⟨#[40, 95, 32, 120, 41]⟩, .string ⟨#[40, 108, 105, 116, 32, 120, 41]⟩, .string ⟨#[40, 120, 32, 49, 32, 35, 116, 41]⟩, .string ⟨#[40, 40, 120, 32, 46, 46, 46, 41, 32, 40, 121, 32, 46, 46, 46, 41, 41]⟩, .string ⟨#[40, 40, 40, 120, 32, 46, 46, 46, 41, 32, 46, 46, 46, 41, 32, 46, 46, 46, 41]⟩, .string ⟨#[40, 41]⟩, .string ⟨#[40, 120, 32, 40, 121, 32, 40, 122, 32, 46, 46, 46, 41, 32, 46, 46, 46, 41, 32, 46, 46, 46, 41]⟩, .string ⟨#[40, 40, 108, 105, 116, 32, 120, 41, 32, 46, 46, 46, 32, 121, 41]⟩] 9)
  go_enter Try.func18, Try.ntmps18
  go_wp2_with fail
  refine (within4_any a 15 _ ha.1 ha.2 (by decide) (by decide)).mono ?_
  rintro e w2 ⟨rfl, rfl⟩
  rw [show a % 15 = (k : Int) from hk.symm]
  clear hk ha
  have qk : (k : Int) < 15 := by omega
  go_wp2_with fail
  go_ret
  exact ⟨rfl, hb⟩
set_option maxHeartbeats 4000000 in
set_option maxRecDepth 100000 in
theorem template_any (a : Int) (k : Nat) (ha : I64 a) (hk : (k : Int) = a % (16 : Nat)) (hk2 : k < 16) (w : World) : Calls Try.prog 19 #[.int .i64 a] w (RetStr (mT k) w) := by
  have e0 : (w.alloc (.cells #[.string ⟨#[120]⟩, .string ⟨#[40, 120, 41]⟩, .string ⟨#[40, 120, 32, 121, 41]⟩, .string ⟨#[40, 120, 32, 46, 46, 46, 41]⟩, .string ⟨#[40, 102, 32, 120, 32, 46, 46, 46, 41]⟩, .string ⟨#[40, 40, 120, 32, 121, 41, 32, 46, 46, 46, 41]⟩, .string ⟨#[40, 120, 32, 40, 121, 32, 46, 46, 46, 41, 32, 46, 46, 46, 41]⟩, .string ⟨#[40, 40, 120, 32, 121, 32, 46, 46, 46, 41, 32, 46, 46, 46, 41]⟩, .string ⟨#[40, 40, 40, 120, 32, 46, 46, 46, 41, 32, 46, 46, 46, 41, 32, 46, 46, 46, 41]⟩, .string ⟨#[40, 121, 32, 120, 32, 46, 46, 46, 32, 122, 41]⟩, .string ⟨#[40, 108, 101, 116, 32, 40, 40, 120, 32, 121, 41, 32, 46, 46, 46, 41, 32, 122, 41]⟩, .string ⟨#[40, 40, 122, 32, 46, 46, 46, 41, 32, 46, 46, 46, 41]⟩, .string ⟨#[49]⟩, .string ⟨#[40, 41]⟩, .string ⟨#[40, 97, 32, 40, 120, 32, 122, 41, 32, 46, 46, 46, 41]⟩, .string ⟨#[40, 120, 32, 46, 46, 46, 32, 121, 32, 46, 46, 46, 41]⟩] 9)).cell? ⟨w.heap.size, k, none⟩ = some (.string (mT k)) := by rw [Lib.cell_of_heap (alloc_at _ _)]; exact mT_at k hk2
  have hb := (Below.refl w.heap.size w).alloc (Nat.le_refl _) (.cells #[.string ⟨#[120]⟩, .string ⟨#[40, 120, 41]⟩, .string ⟨#[40, 120, 32, 121, 41]⟩, .string ⟨#[40, 120, 32, 46, 46, 46, 41]⟩, .string ⟨#[40, 102, 32, 120, 32, 46, 46, 46, 41]⟩, .string ⟨#[40, 40, 120, 32, 121, 41, 32, 46, 46, 46, 41]⟩, .string ⟨#[40, 120, 32, 40, 121, 32, 46, 46, 46, 41, 32, 46, 46, 46, 41]⟩, .string ⟨#[40, 40, 120, 32, 121, 32, 46, 46, 46, 41, 32, 46, 46, 46, 41]⟩, .string ⟨#[40, 40, 40, 120, 32, 46, 46, 46, 41, 32, 46, 46, 46, 41, 32, 46, 46, 46, 41]⟩, .string ⟨#[40, 121, 32, 120, 32, 46, 46, 46, 32, 122, 41]⟩, .string ⟨#[40, 108, 101, 116, 32, 40, 40, 120, 32, 121, 41, 32, 46, 46, 46, 41, 32, 122, 41]⟩, .string ⟨#[40, 40, 122, 32, 46, 46, 46, 41, 32, 46, 46, 46, 41]⟩, .string ⟨#[49]⟩, .string ⟨#[40, 41]⟩, .string ⟨#[40, 97, 32, 40, 120, 32, 122, 41, 32, 46, 46, 46, 41]⟩, .string ⟨#[40, 120, 32, 46, 46, 46, 32, 121, 32, 46, 46, 46, 41]⟩] 9)
  go_enter Try.func19, Try.ntmps19
  go_wp2_with fail
  refine (within4_any a 16 _ ha.1 ha.2 (by decide) (by decide)).mono ?_
  rintro e w2 ⟨rfl, rfl⟩
  rw [show a % 16 = (k : Int) from hk.symm]
  clear hk ha
  have qk : (k : Int) < 16 := by omega
  go_wp2_with fail
  go_ret
  exact ⟨rfl, hb⟩
def RetLits (ls : List ByteArray) (w : World) (e : Ending) (w' : World) : Prop := ∃ v, e = .returned v ∧ LitsAt w' v ls ∧ Below w.heap.size w w' ∧ ∀ x, v.ownBlock = some x → x < w'.heap.size
set_option maxHeartbeats 4000000 in
set_option maxRecDepth 100000 in
theorem lits_any (a : Int) (k : Nat) (ha : I64 a) (hk : (k : Int) = a % (4 : Nat)) (hk2 : k < 4) (w : World) : Calls Try.prog 21 #[.int .i64 a] w (RetLits (lLit.take k) w) := by
  have e0 : (w.alloc (.cells #[.string ⟨#[108, 105, 116]⟩, .string ⟨#[97]⟩, .string ⟨#[120]⟩] 9)).heap[w.heap.size]? = some (.cells #[.string ⟨#[108, 105, 116]⟩, .string ⟨#[97]⟩, .string ⟨#[120]⟩] 9 (0, 0)) := alloc_at _ _
  have hb := (Below.refl w.heap.size w).alloc (Nat.le_refl _) (.cells #[.string ⟨#[108, 105, 116]⟩, .string ⟨#[97]⟩, .string ⟨#[120]⟩] 9)
  have hl : (lLit.take k).length = k := by simp [lLit]; omega
  have HLA : Hid (LitsAt (w.alloc (.cells #[.string ⟨#[108, 105, 116]⟩, .string ⟨#[97]⟩, .string ⟨#[120]⟩] 9)) (.slice (some ⟨w.heap.size, 0, none⟩) k 3) (lLit.take k)) := by
    refine .inr ⟨_, 0, 3, _, _, by rw [hl], e0, fun j hj => ?_⟩
    rw [hl] at hj
    simp only [List.getElem_take]
    rcases (show j = 0 ∨ j = 1 ∨ j = 2 by omega) with rfl | rfl | rfl <;> rfl
  clear e0 hl
  go_enter Try.func21, Try.ntmps21
  go_wp2_with fail
  refine (within4_any a 4 _ ha.1 ha.2 (by decide) (by decide)).mono ?_
  rintro e w2 ⟨rfl, rfl⟩
  rw [show a % 4 = (k : Int) from hk.symm]
  clear hk ha
  have qk : (k : Int) ≤ 3 := by omega
  go_wp2_with fail
  go_ret
  exact ⟨_, rfl, HLA.out, hb, fun x h => by simp [Value.ownBlock] at h; subst h; simp⟩
end Go.Proofs.Ythhaegncnoekbaa
