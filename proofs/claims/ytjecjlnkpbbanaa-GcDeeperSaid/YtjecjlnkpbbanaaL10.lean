/- The document's New; a pair of heaps, new. -/
import Derived.Test.YtjecjlnkpbbanaaL9
namespace Go.Proofs.Ytjecjlnkpbbanaa
open Go Go.RowKit
set_option linter.unusedVariables false
set_option linter.unusedSimpArgs false
theorem new_r (n : Int) (w : World) : Calls Try.prog 30 #[.int .i64 n] w
    fun e w' => e = .returned (.pointer (some ⟨w.heap.size, 0, none⟩)) ∧ w' = w.alloc (.cells #[.int .i64 n, .int .i64 0, .slice none 0 0] 67) := by
  go_enter Try.func30, Try.ntmps30
  go_wp2
  go_ret
  exact ⟨rfl, rfl⟩
theorem Pr.new {B w w1 w2 : World} (hb : Below B.heap.size B w) (m : Nat) (hm : m ≤ 1000000) (h1 : w1 = w.alloc (.cells #[.slice none 0 0, .int .i64 m] 75)) (h2 : w2 = w1.alloc (.cells #[.int .i64 m, .int .i64 0, .slice none 0 0] 67)) :
    ∃ C, Pr B w2 w.heap.size w1.heap.size none C [] [] m ∧ (∀ k, fp w.heap.size none C k → w.heap.size ≤ k) ∧ Below w.heap.size w w2 := by
  have s1 : w1.heap.size = w.heap.size + 1 := by rw [h1]; exact Array.size_push _
  have s2 : w2.heap.size = w1.heap.size + 1 := by rw [h2]; exact Array.size_push _
  have b1 : Below w.heap.size w w1 := by rw [h1]; exact (Below.refl _ _).alloc (Nat.le_refl _) _
  have b2 : Below w1.heap.size w1 w2 := by rw [h2]; exact (Below.refl _ _).alloc (Nat.le_refl _) _
  have hl : HL B w1 w.heap.size none [] m := by rw [h1]; exact HL.new hb m hm
  have hs := hb.size
  refine ⟨fun k => if k = w1.heap.size then 1 else 0, ⟨hl.below b2, ⟨?_, ?_, rfl, ?_, ?_, ?_, hm, Nat.zero_le _, ?_⟩, ?_, ?_, ?_⟩, ?_, ?_⟩
  · exact ⟨.slice none 0 0, by rw [h2]; exact alloc_at _ _, World.ownsRow_nil _ _ _ _, fun k hk => by cases hk⟩
  · simp
  · intro i hi; simp at hi
  · intro o h; simp at h
  · intro o h; simp at h
  · intro k hk
    have : k ≠ w1.heap.size := by omega
    simp [this]
  · have : w.heap.size ≠ w1.heap.size := by omega
    simp [this]
  · intro k hk; cases hk
  · intro k hk
    have : k = w1.heap.size := by
      apply Classical.byContradiction
      intro e
      simp [e] at hk
    omega
  · rintro k ((rfl | hk) | hk)
    · exact Nat.le_refl _
    · cases hk
    · have : k = w1.heap.size := by
        apply Classical.byContradiction
        intro e
        simp [e] at hk
      omega
  · exact b1.trans (b2.mono (by omega))
end Go.Proofs.Ytjecjlnkpbbanaa
