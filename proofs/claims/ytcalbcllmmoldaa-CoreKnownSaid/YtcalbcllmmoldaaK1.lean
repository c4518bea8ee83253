/- known: the chapter's example. -/
import Derived.Test.YtcalbcllmmoldaaW1
import Derived.Test.YtcalbcllmmoldaaR2
namespace Go.Proofs.Ytcalbcllmmoldaa
open Go.RowKit Go.BigM
set_option linter.unusedVariables false
set_option linter.unusedSimpArgs false
abbrev nilC : Array Value := #[.int .i64 3, .string ⟨#[]⟩, .slice none 0 0, .slice none 0 0]
theorem nil_at (S : Nat → Prop) (w : World) : Et.At S w (.mk 3 ⟨#[]⟩ [] []) nilC := by
  rw [EAt_mk]; exact ⟨_, _, rfl, .inl ⟨rfl, rfl⟩, .inl ⟨rfl, rfl⟩⟩
set_option maxHeartbeats 4000000 in
set_option maxRecDepth 100000 in
theorem term_nil (B b : Nat) (l : List UInt8) (w : World) (hW : Wr B b l w) (hlen : l.length ≤ 1000000) (hBw : B ≤ w.heap.size) :
    Calls Try.prog 42 #[.pointer (some ⟨b, 0, none⟩), .agg nilC] w (RetPut B b (l ++ [40, 41]) w) := by
  have W0 := Lib.hid (hW.alloc (.cells nilC 28))
  have F0 := Lib.hid ((Fr.refl B b w).alloc hBw (.cells nilC 28))
  have hz : B ≤ (w.alloc (.cells nilC 28)).heap.size := by simp; omega
  have P0 : Hid (∀ W, W = w.alloc (.cells nilC 28) → Calls Try.prog 56 #[.pointer (some ⟨b, 0, none⟩), .slice (some ⟨W.heap.size, 0, none⟩) 1 1] (W.alloc (.cells #[.string ⟨#[40, 41]⟩] 9)) (RetPut B b (l ++ [40, 41]) (W.alloc (.cells #[.string ⟨#[40, 41]⟩] 9)))) := by
    show _
    rintro W rfl
    have := put_any B b l [⟨#[40, 41]⟩] _ _ _ (NAt.lits (w.alloc (.cells nilC 28)) [⟨#[40, 41]⟩]) (W0.out.alloc _) (by simp [cat]; omega) (by simp) (by simp; omega)
    exact this
  have F1 := Lib.hid (F0.out.alloc hz (.cells #[.string ⟨#[40, 41]⟩] 9))
  clear hW hz
  go_enter Try.func42, Try.ntmps42
  go_wp2_with fail
  have P1 := P0.out _ rfl
  have e1 : (w.alloc (.cells nilC 28)).heap.size = w.heap.size + 1 := by simp
  rw [e1] at P1
  clear e1
  refine P1.mono ?_
  rintro e w1 ⟨rfl, hW1, hF1⟩
  have HF := Lib.hid (F1.out.trans hF1)
  have HW := Lib.hid hW1
  clear hW1 hF1 P1 P0 W0 F0 F1
  go_wp2_with fail
  go_end0
  exact ⟨rfl, HW.out, HF.out⟩
set_option maxHeartbeats 4000000 in
set_option maxRecDepth 100000 in
theorem text_nil2 (w : World) : Calls Try.prog 19 #[.agg nilC] w (RetStr ⟨#[40, 41]⟩ w) := by
  have K0 := Lib.hid ((Below.refl w.heap.size w).alloc (Nat.le_refl _) (.cells nilC 28))
  have K2 := Lib.hid (alloc_at w (.cells nilC 28))
  have K3 : (w.alloc (.cells nilC 28)).heap.size = w.heap.size + 1 := by simp
  go_enter Try.func19, Try.ntmps19
  go_wp2_with fail
  generalize w.alloc (.cells nilC 28) = W at K0 K2 K3 ⊢
  have F0 := Lib.hid (Wr.fresh W)
  have F1 := Lib.hid (row_below ((Below.refl W.heap.size W).alloc (Nat.le_refl _) (.cells #[.pointer none, .slice none 0 0] 63)) K2.out)
  have F2 := Lib.hid ((K0.out).alloc (by omega) (.cells #[.pointer none, .slice none 0 0] 63))
  rw [K3] at F0
  have F3 : w.heap.size + 1 ≤ (W.alloc (.cells #[.pointer none, .slice none 0 0] 63)).heap.size := by simp; omega
  generalize W.alloc (.cells #[.pointer none, .slice none 0 0] 63) = W2 at F0 F1 F2 F3 ⊢
  have HT := Lib.hid (term_nil (w.heap.size + 1) (w.heap.size + 1) [] W2 F0.out (by simp) F3)
  refine HT.out.mono ?_
  rintro e w3 ⟨rfl, hW, hF⟩
  have G0 := Lib.hid hW
  have G1 := Lib.hid (F2.out.trans (hF.1.mono (by omega)))
  have G2 : w.heap.size + 1 ≤ w3.heap.size := by have := hF.1.size; omega
  clear hW hF HT
  have HX := Lib.hid (text_of (w.heap.size + 1) (w.heap.size + 1) ([] ++ [40, 41]) w3 G0.out G2)
  go_wp2_with fail
  refine HX.out.mono ?_
  rintro e w4 ⟨rfl, hb⟩
  have G3 := Lib.hid (G1.out.trans (hb.mono (by omega)))
  clear hb
  go_wp2_with fail
  go_ret
  exact ⟨rfl, G3.out⟩
set_option maxHeartbeats 4000000 in
set_option maxRecDepth 100000 in
theorem known_any (w : World) : Calls Try.prog 11 #[] w (RetBool true w) := by
  have A1 := Lib.hid (fun w => arity_any ⟨#[99, 97, 114]⟩ w)
  have A2 := Lib.hid (fun w => arity_any ⟨#[110, 111]⟩ w)
  have e1 : ((arity ⟨#[99, 97, 114]⟩ : Nat) : Int) = 1 := by simp [arity, arityIn, prims, Lib.toList_data]
  have e2 : ((arity ⟨#[110, 111]⟩ : Nat) : Int) = 0 := by simp [arity, arityIn, prims, Lib.toList_data]
  unfold RetSame at A1 A2
  rw [e1] at A1
  rw [e2] at A2
  have R := Lib.hid (fun w => right_any2 (.mk 3 ⟨#[]⟩ [] []) (fun _ => True) nilC w (nil_at _ _) (by simp [Et.size, Et.sizes]) (by rw [fine_mk]; exact ⟨by decide, by simp, by simp, by simp⟩))
  have e3 : Et.right num (.mk 3 ⟨#[]⟩ [] []) = true := by simp [right_mk, shapeB, textB, namesB, partsB, Et.rights, Lib.toList_data]
  rw [e3] at R
  clear e1 e2 e3
  go_enter Try.func11, Try.ntmps11
  go_wp2_with fail
  refine (text_nil2 _).mono ?_
  rintro e w1 ⟨rfl, hb⟩
  have B1 := Lib.hid hb
  clear hb
  go_wp2_with fail
  refine (A1.out _).mono ?_
  rintro e w2 ⟨rfl, rfl⟩
  go_wp2_with fail
  refine (A2.out _).mono ?_
  rintro e w3 ⟨rfl, rfl⟩
  go_wp2_with fail
  refine (R.out _).mono ?_
  rintro e w4 ⟨rfl, hb⟩
  have B2 := Lib.hid (B1.out.trans (hb.mono B1.out.size))
  clear hb
  go_wp2_with fail
  go_ret
  exact ⟨rfl, B2.out⟩
end Go.Proofs.Ytcalbcllmmoldaa
