/- known; within; the walk of DatumKinds. -/
import Derived.Test.YtlkpddokmibkiaaE4
namespace Go.Proofs.Ytlkpddokmibkiaa
open Go.RowKit
set_option linter.unusedVariables false
set_option linter.unusedSimpArgs false

/-- A datum that is no list. -/
theorem leaf_at (S : Nat → Prop) (w : World) (k : Int) (t : ByteArray) (p : Int) : Dt.At S w (.mk k t [] [] p) #[.int .i64 k, .string t, .slice none 0 0, .slice none 0 0, .int .i64 p] := by
  rw [At_mk]; exact ⟨_, _, rfl, .inl ⟨rfl, rfl⟩, .inl ⟨rfl, rfl⟩⟩
/-- It returns this text; what was there stands. -/
def RetStr (s : ByteArray) (w : World) (e : Ending) (w' : World) : Prop := e = .returned (.string s) ∧ Below w.heap.size w w'
theorem text_leaf (k : Int) (t : ByteArray) (p : Int) (hk : k ≠ 4) (ht : t.size ≤ 140737488355328) (w : World) :
    Calls Try.prog 17 #[.agg #[.int .i64 k, .string t, .slice none 0 0, .slice none 0 0, .int .i64 p]] w (RetStr t w) := by
  have e : (Dt.mk k t [] [] p).txt = t.data.toList := by simp [Dt.txt, hk]
  refine (text_any (.mk k t [] [] p) (fun _ => True) _ w (leaf_at _ _ _ _ _) (by simp [Dt.size, Dt.sizes]) (by rw [e, size_list]; exact ht)).mono ?_
  rintro e' w' ⟨h1, h2⟩
  refine ⟨?_, h2⟩
  rw [h1, e]
theorem text_none (w : World) :
    Calls Try.prog 17 #[.agg #[.int .i64 4, .string ⟨#[]⟩, .slice none 0 0, .slice none 0 0, .int .i64 0]] w (RetStr ⟨#[40, 41]⟩ w) := by
  refine (text_any (.mk 4 ⟨#[]⟩ [] [] 0) (fun _ => True) _ w (leaf_at _ _ _ _ _) (by simp [Dt.size, Dt.sizes]) (by simp [Dt.txt, Dt.txts])).mono ?_
  rintro e' w' ⟨h1, h2⟩
  refine ⟨?_, h2⟩
  rw [h1]
  simp [Dt.txt, Dt.txts]
theorem size_leaf (k : Int) (t : ByteArray) (p : Int) (w : World) :
    Calls Try.prog 22 #[.agg #[.int .i64 k, .string t, .slice none 0 0, .slice none 0 0, .int .i64 p]] w (RetInt 1 w) := by
  refine (size_any 1 (by decide) (.mk k t [] [] p) (by simp [Dt.size, Dt.sizes]) (fun _ => True) _ w (leaf_at _ _ _ _ _)).mono ?_
  rintro e' w' ⟨h1, h2⟩
  exact ⟨by rw [h1]; simp [Dt.size, Dt.sizes], h2⟩
theorem same_leaf (k k' : Int) (t : ByteArray) (p p' : Int) (w : World) (b : Bool) (hb : (k == k') = b) :
    Calls Try.prog 19 #[.agg #[.int .i64 k, .string t, .slice none 0 0, .slice none 0 0, .int .i64 p], .agg #[.int .i64 k', .string t, .slice none 0 0, .slice none 0 0, .int .i64 p']] w (RetBool b w) := by
  refine (same_any 1 (by decide) (.mk k t [] [] p) (.mk k' t [] [] p') (by simp [Dt.size, Dt.sizes]) (fun _ => True) (fun _ => True) _ _ w (leaf_at _ _ _ _ _) (leaf_at _ _ _ _ _)).mono ?_
  rintro e' w' ⟨h1, h2⟩
  exact ⟨by rw [h1, same_mk, hb]; simp [Dt.sames], h2⟩

set_option maxHeartbeats 2000000 in
theorem known_any (w : World) : Calls Try.prog 11 #[] w (RetBool true w) := by
  have F1 := Lib.hid text_none
  have F2 := Lib.hid (is_any 3 ⟨#[97]⟩ ⟨#[97]⟩ (.slice none 0 0) (.slice none 0 0) 0 true true (by decide) (by rw [beq_iff_eq]) rfl rfl)
  have F3 := Lib.hid (size_leaf 1 ⟨#[49]⟩ 0)
  have BB := Lib.hid (Below.refl w.heap.size w)
  go_enter Try.func11, Try.ntmps11
  go_wp2_with ((first | (go_at_call 17; (with_reducible refine (F1.out _).mono ?_)) | (go_at_call 24; (with_reducible refine (F2.out _).mono ?_)) | (go_at_call 22; (with_reducible refine (F3.out _).mono ?_))); rintro e w2 ⟨rfl, hb⟩; replace BB := Lib.hid (BB.out.trans (hb.mono BB.out.size)); clear hb)
  go_ret
  exact ⟨rfl, BB.out⟩
end Go.Proofs.Ytlkpddokmibkiaa
