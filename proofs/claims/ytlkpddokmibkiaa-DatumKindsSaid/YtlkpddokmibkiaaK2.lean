/- The walk of DatumKinds: whatever the numbers and the text, true. -/
import Derived.Test.YtlkpddokmibkiaaK0
import Derived.Test.YtlkpddokmibkiaaK1
import Derived.Lib.TrimByte
namespace Go.Proofs.Ytlkpddokmibkiaa
open Go.RowKit
set_option linter.unusedVariables false
set_option linter.unusedSimpArgs false

theorem ne_more (t : ByteArray) : (t.toList == (t ++ ⟨#[97]⟩ : ByteArray).toList) = false := by
  rw [beq_eq_false_iff_ne, Lib.toList_data, Lib.toList_data]
  intro e
  have := congrArg List.length e
  simp [ByteArray.data_append] at this

section
variable {P : Program} {ops : Array Oper} {Q : Exit → Act → World → Prop} {a : Act} {w : World} {rest : List Oper} {o : Oper}
theorem wpList_wanted (hw : Region.wanted o (yielded ops a.tmps) = true) (h : ∀ K : Act → World → Prop, (∀ a w, wpList P ops Q rest a w → K a w) → o.wp P a w K Q) : wpList P ops Q (o :: rest) a w :=
  wpList_step fun K hK => by rw [if_pos hw]; exact h K hK
theorem wpList_load_wanted (hw : Region.wanted o (yielded ops a.tmps) = true) (ty : TypeId) (x : Operand) (ho : o.op = .load ty x)
    (g : Nat) (hx : a.eval x = .pointer (some ⟨g, 0, none⟩)) (t : TypeId) (cs : Array Value) (fr : Nat × Nat) (d : TypeDesc) (hg : w.heap[g]? = some (.cells cs t fr))
    (hu : P.underlying ty = some d) (hd : (match d with | .struct _ | .array _ _ => true | _ => false) = true) (hi : (P.info? ty).map (·.size) = some cs.size)
    (h : wpList P ops Q rest (a.put o.dst (.agg cs)) w) : wpList P ops Q (o :: rest) a w :=
  wpList_wanted hw fun _ hK => wp_load_row ty x ho g hx t cs fr d hg hu hd hi (hK _ _ h)
end
theorem Below.row {w w' : World} (h : Below w.heap.size w w') {g : Nat} {c : Array Value} {T : TypeId} {fz : Nat × Nat} (hg : w.heap[g]? = some (.cells c T fz)) : w'.heap[g]? = some (.cells c T fz) := by
  rw [h.block g (Array.getElem?_eq_some_iff.1 hg).1]; exact hg

set_option maxHeartbeats 4000000 in
theorem kinds_walk (a0 a1 : Int) (s2 : ByteArray) (h0 : I64 a0) (h1 : I64 a1) (h2 : s2.size ≤ maxLen) (w : World) :
    Calls Try.prog 9 #[.int .i64 a0, .int .i64 a1, .string s2] w fun e w' => e = .returned (.bool true) ∧ Below w.heap.size w w' := by
  unfold maxLen at h2
  have I0 := Lib.hid h0
  have I1 := Lib.hid h1
  have BB := Lib.hid (Below.refl w.heap.size w)
  clear h0 h1
  by_cases hlen : 60 < s2.size
  · have q0 : decide ((60 : Int) < (s2.size : Int)) = true := decide_eq_true (by omega)
    go_enter Try.func9, Try.ntmps9
    go_wp2_with (go_at_call 11; refine (known_any _).mono ?_; rintro e w1 ⟨rfl, hb⟩; replace BB := Lib.hid (BB.out.trans (hb.mono BB.out.size)); clear hb)
    go_ret
    exact ⟨rfl, BB.out⟩
  · have q0 : decide ((60 : Int) < (s2.size : Int)) = false := decide_eq_false (by omega)
    have hs : s2.size ≤ 60 := by omega
    clear hlen h2
    go_enter Try.func9, Try.ntmps9
    go_wp2_with (go_at_call 11; refine (known_any _).mono ?_; rintro e w1 ⟨rfl, hb⟩; replace BB := Lib.hid (BB.out.trans (hb.mono BB.out.size)); clear hb)
    refine (within_some a0 3 I0.out (by decide) (by decide) _).mono ?_
    rintro e w' ⟨r, hr, rfl, rfl⟩
    go_wp2_with fail
    refine (within_some a1 3 I1.out (by decide) (by decide) _).mono ?_
    rintro e w' ⟨t, ht, rfl, rfl⟩
    go_wp2_with fail
    obtain ⟨j, hj⟩ : ∃ j : Int, 1 + (r : Int) = j := ⟨_, rfl⟩
    obtain ⟨k, hk⟩ : ∃ k : Int, 1 + (t : Int) = k := ⟨_, rfl⟩
    have hj1 : 1 ≤ j := by omega
    have hj2 : j ≤ 3 := by omega
    simp only [hj, hk]
    clear hj hk hr ht I0 I1
    have HX := Lib.hid ((alloc_old' _ (.cells #[.int .i64 k, .string s2, .slice none 0 0, .slice none 0 0, .int .i64 9] 28) w1.heap.size (by simp)).trans (alloc_at w1 (.cells #[.int .i64 j, .string s2, .slice none 0 0, .slice none 0 0, .int .i64 0] 28)))
    replace BB := Lib.hid ((BB.out.alloc BB.out.size (.cells #[.int .i64 j, .string s2, .slice none 0 0, .slice none 0 0, .int .i64 0] 28)).alloc (by have := BB.out.size; simp; omega) (.cells #[.int .i64 k, .string s2, .slice none 0 0, .slice none 0 0, .int .i64 9] 28))
    generalize (w1.alloc (.cells #[.int .i64 j, .string s2, .slice none 0 0, .slice none 0 0, .int .i64 0] 28)).alloc (.cells #[.int .i64 k, .string s2, .slice none 0 0, .slice none 0 0, .int .i64 9] 28) = W at HX BB ⊢
    have F1 := Lib.hid (fun w => same_leaf j k s2 0 9 w (j == k) rfl)
    have F2 := Lib.hid (is_any j s2 s2 (.slice none 0 0) (.slice none 0 0) 0 (j == 3) true rfl (by simp) rfl rfl)
    obtain ⟨sa, hsa⟩ : ∃ t, (s2 ++ ⟨#[97]⟩ : ByteArray) = t := ⟨_, rfl⟩
    have F3 := Lib.hid (is_any j s2 sa (.slice none 0 0) (.slice none 0 0) 0 (j == 3) false rfl (by rw [← hsa]; exact ne_more s2) rfl rfl)
    have F4 := Lib.hid (text_leaf j s2 0 (by omega) (by omega))
    have F5 := Lib.hid (size_leaf j s2 0)
    rw [Bool.and_true] at F2
    rw [Bool.and_false] at F3
    obtain ⟨b1, hb1⟩ : ∃ b : Bool, (j == k) = b := ⟨_, rfl⟩
    obtain ⟨b2, hb2⟩ : ∃ b : Bool, (j == 3) = b := ⟨_, rfl⟩
    rw [hb1] at F1
    rw [hb2] at F2
    refine (F1.out _).mono ?_
    rintro e w2 ⟨rfl, hb⟩
    replace BB := Lib.hid (BB.out.trans (hb.mono BB.out.size))
    replace HX := Lib.hid (Below.row hb HX.out)
    clear hb
    go_wp2_with (first
      | (refine wpList_load_wanted (by rfl) 28 _ rfl w1.heap.size rfl 28 #[.int .i64 j, .string s2, .slice none 0 0, .slice none 0 0, .int .i64 0] (0, 0) _ HX.out Try.underlying28 rfl info28 ?_)
      | ((first | (go_at_call 24; first | (with_reducible refine (F2.out _).mono ?_) | (with_reducible refine (F3.out _).mono ?_)) | (go_at_call 17; (with_reducible refine (F4.out _).mono ?_)) | (go_at_call 22; (with_reducible refine (F5.out _).mono ?_))); rintro e w2 ⟨rfl, hb⟩; replace BB := Lib.hid (BB.out.trans (hb.mono BB.out.size)); replace HX := Lib.hid (Below.row hb HX.out); clear hb))
    go_ret
    exact ⟨rfl, BB.out⟩
end Go.Proofs.Ytlkpddokmibkiaa
