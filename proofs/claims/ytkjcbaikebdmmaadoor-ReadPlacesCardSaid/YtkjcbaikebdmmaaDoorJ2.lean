/- Contracts of the small functions on lists that are begun. -/
import Derived.Test.YtkjcbaikebdmmaaDoorD1
import Derived.Test.YtkjcbaikebdmmaaDoorJ1
namespace Go.Proofs.YtkjcbaikebdmmaaDoor
open Go.RowKit
set_option linter.unusedVariables false
set_option linter.unusedSimpArgs false

theorem info55 : (Tryd.prog.info? 55).map (·.size) = some 6 := by kernel_rfl
def Z6 : Array Value := #[.int .i64 0, .string ⟨#[]⟩, .slice none 0 0, .slice none 0 0, .int .i64 0, .bool false]
theorem deep_any (ao : Option Addr) (n c : Nat) (w : World) (h1 : 1 ≤ n) (hn : n ≤ 100000) : Calls Tryd.prog 29 #[.slice ao n c] w fun e w' => e = .returned (.int .i64 ((n : Int) - 1)) ∧ w = w' := by
  go_enter Tryd.func29, Tryd.ntmps29
  go_wp2
  go_ret
  exact ⟨rfl, rfl⟩
theorem inner_any (g n c : Nat) (w : World) (h1 : 1 ≤ n) (hn : n ≤ 100000) : Calls Tryd.prog 31 #[.slice (some ⟨g, 0, none⟩) n c] w fun e w' => e = .returned (.pointer (some ⟨g, (n - 1) * 6, none⟩)) ∧ w = w' := by
  obtain ⟨k, rfl⟩ : ∃ k, n = k + 1 := ⟨n - 1, by omega⟩
  have e1 : (((k + 1 : Nat) : Int) - 1) = (k : Int) := by omega
  have FD := Lib.hid (fun w => e1 ▸ deep_any (some ⟨g, 0, none⟩) (k + 1) c w h1 hn)
  obtain ⟨n, hnk⟩ : ∃ n, n = k + 1 := ⟨_, rfl⟩
  have hkn : k < n := by omega
  rw [← hnk] at FD ⊢
  have e2 : n - 1 = k := by omega
  rw [e2]
  clear e1 e2 hnk h1 hn
  go_enter Tryd.func31, Tryd.ntmps31
  go_wp2_with fail
  refine (FD.out _).mono ?_
  rintro e w' ⟨rfl, rfl⟩
  go_wp2_with fail
  go_ret
  exact ⟨rfl, rfl⟩
def qT : ByteArray := ⟨#[113, 117, 111, 116, 101]⟩
def RetOp (q : Bool) (at_ : Int) (w : World) (e : Ending) (w' : World) : Prop :=
  ∃ v, e = .returned (.agg #[.int .i64 4, .string ⟨#[]⟩, .slice none 0 0, v, .int .i64 at_, .bool q]) ∧ OwnS (fun _ => False) w.heap.size w' v (if q then [.mk 3 qT [] [] at_] else []) ∧ Below w.heap.size w w'
set_option maxHeartbeats 1000000 in
theorem opened_any (by_ : UInt8) (at_ : Int) (w : World) (q : Bool) (hq : (by_ == 39) = q) : Calls Tryd.prog 30 #[.int .u8 by_.toNat, .int .i64 at_] w (RetOp q at_ w) := by
  have b1 : ((by_.toNat : Int) == 39) = q := (byte_eq by_ 39).trans hq
  clear hq
  cases q with
  | false =>
    have HX := Lib.hid ((Lib.alloc_old (w.alloc (.cells #[.int .i64 4, .string ⟨#[]⟩, .slice none 0 0, .slice none 0 0, .int .i64 at_, .bool false] 55)) (.cells #[.int .i64 4, .string ⟨#[]⟩, .slice none 0 0, .slice none 0 0, .int .i64 at_, .bool false] 55) w.heap.size (by simp)).trans (alloc_at w (.cells #[.int .i64 4, .string ⟨#[]⟩, .slice none 0 0, .slice none 0 0, .int .i64 at_, .bool false] 55)))
    have HB := Lib.hid (((Below.refl w.heap.size w).alloc (Nat.le_refl _) (.cells #[.int .i64 4, .string ⟨#[]⟩, .slice none 0 0, .slice none 0 0, .int .i64 at_, .bool false] 55)).alloc (by simp) (.cells #[.int .i64 4, .string ⟨#[]⟩, .slice none 0 0, .slice none 0 0, .int .i64 at_, .bool false] 55))
    go_enter Tryd.func30, Tryd.ntmps30
    go_wp2_with fail
    refine bodyPost_ret (results_cell_row rfl _ _ w.heap.size 55 #[.int .i64 4, .string ⟨#[]⟩, .slice none 0 0, .slice none 0 0, .int .i64 at_, .bool false] (0, 0) _ rfl HX.out Tryd.underlying55 rfl info55) rfl ?_
    exact ⟨_, rfl, OwnS.nil _ _ _, HB.out⟩
  | true =>
    have hs2 : ((w.alloc (.cells #[.int .i64 4, .string ⟨#[]⟩, .slice none 0 0, .slice (some ⟨w.heap.size + 1 + 1, 0, none⟩) 1 1, .int .i64 at_, .bool true] 55)).alloc (.cells #[.int .i64 4, .string ⟨#[]⟩, .slice none 0 0, .slice (some ⟨w.heap.size + 1 + 1, 0, none⟩) 1 1, .int .i64 at_, .bool true] 55)).heap.size = w.heap.size + 1 + 1 := by simp
    have HX := Lib.hid ((Lib.alloc_old ((w.alloc (.cells #[.int .i64 4, .string ⟨#[]⟩, .slice none 0 0, .slice (some ⟨w.heap.size + 1 + 1, 0, none⟩) 1 1, .int .i64 at_, .bool true] 55)).alloc (.cells #[.int .i64 4, .string ⟨#[]⟩, .slice none 0 0, .slice (some ⟨w.heap.size + 1 + 1, 0, none⟩) 1 1, .int .i64 at_, .bool true] 55)) (.cells #[.int .i64 3, .string ⟨#[113, 117, 111, 116, 101]⟩, .slice none 0 0, .slice none 0 0, .int .i64 at_] 40) w.heap.size (by simp; omega)).trans ((Lib.alloc_old (w.alloc (.cells #[.int .i64 4, .string ⟨#[]⟩, .slice none 0 0, .slice (some ⟨w.heap.size + 1 + 1, 0, none⟩) 1 1, .int .i64 at_, .bool true] 55)) (.cells #[.int .i64 4, .string ⟨#[]⟩, .slice none 0 0, .slice (some ⟨w.heap.size + 1 + 1, 0, none⟩) 1 1, .int .i64 at_, .bool true] 55) w.heap.size (by simp)).trans (alloc_at w (.cells #[.int .i64 4, .string ⟨#[]⟩, .slice none 0 0, .slice (some ⟨w.heap.size + 1 + 1, 0, none⟩) 1 1, .int .i64 at_, .bool true] 55))))
    have hq2 := alloc_at ((w.alloc (.cells #[.int .i64 4, .string ⟨#[]⟩, .slice none 0 0, .slice (some ⟨w.heap.size + 1 + 1, 0, none⟩) 1 1, .int .i64 at_, .bool true] 55)).alloc (.cells #[.int .i64 4, .string ⟨#[]⟩, .slice none 0 0, .slice (some ⟨w.heap.size + 1 + 1, 0, none⟩) 1 1, .int .i64 at_, .bool true] 55)) (.cells #[.int .i64 3, .string ⟨#[113, 117, 111, 116, 101]⟩, .slice none 0 0, .slice none 0 0, .int .i64 at_] 40)
    rw [hs2] at hq2
    have HB := Lib.hid ((((Below.refl w.heap.size w).alloc (Nat.le_refl _) (.cells #[.int .i64 4, .string ⟨#[]⟩, .slice none 0 0, .slice (some ⟨w.heap.size + 1 + 1, 0, none⟩) 1 1, .int .i64 at_, .bool true] 55)).alloc (by simp) (.cells #[.int .i64 4, .string ⟨#[]⟩, .slice none 0 0, .slice (some ⟨w.heap.size + 1 + 1, 0, none⟩) 1 1, .int .i64 at_, .bool true] 55)).alloc (by simp; omega) (.cells #[.int .i64 3, .string ⟨#[113, 117, 111, 116, 101]⟩, .slice none 0 0, .slice none 0 0, .int .i64 at_] 40))
    have HO : Hid (OwnS (fun _ => False) w.heap.size (((w.alloc (.cells #[.int .i64 4, .string ⟨#[]⟩, .slice none 0 0, .slice (some ⟨w.heap.size + 1 + 1, 0, none⟩) 1 1, .int .i64 at_, .bool true] 55)).alloc (.cells #[.int .i64 4, .string ⟨#[]⟩, .slice none 0 0, .slice (some ⟨w.heap.size + 1 + 1, 0, none⟩) 1 1, .int .i64 at_, .bool true] 55)).alloc (.cells #[.int .i64 3, .string ⟨#[113, 117, 111, 116, 101]⟩, .slice none 0 0, .slice none 0 0, .int .i64 at_] 40)) (.slice (some ⟨w.heap.size + 1 + 1, 0, none⟩) 1 1) [.mk 3 qT [] [] at_]) := by
      refine ⟨[.int .i64 3, .string ⟨#[113, 117, 111, 116, 101]⟩, .slice none 0 0, .slice none 0 0, .int .i64 at_], ⟨rfl, .inr ⟨w.heap.size + 1 + 1, 1, _, rfl, by omega, hq2, Nat.le_refl _, by decide, rfl, rfl⟩⟩, fun j hj => ?_⟩
      have hj0 : j = 0 := by simpa using hj
      subst hj0
      refine ⟨#[.int .i64 3, .string ⟨#[113, 117, 111, 116, 101]⟩, .slice none 0 0, .slice none 0 0, .int .i64 at_], rfl, fun i hi => by simp, ?_⟩
      show Dt.At _ _ (.mk 3 qT [] [] at_) _
      rw [At_mk]
      exact ⟨_, _, rfl, .inl ⟨rfl, rfl⟩, .inl ⟨rfl, rfl⟩⟩
    clear hq2 hs2
    go_enter Tryd.func30, Tryd.ntmps30
    go_wp2_with fail
    refine bodyPost_ret (results_cell_row rfl _ _ w.heap.size 55 #[.int .i64 4, .string ⟨#[]⟩, .slice none 0 0, .slice (some ⟨w.heap.size + 1 + 1, 0, none⟩) 1 1, .int .i64 at_, .bool true] (0, 0) _ rfl HX.out Tryd.underlying55 rfl info55) rfl ?_
    exact ⟨_, rfl, HO.out, HB.out⟩
end Go.Proofs.YtkjcbaikebdmmaaDoor
