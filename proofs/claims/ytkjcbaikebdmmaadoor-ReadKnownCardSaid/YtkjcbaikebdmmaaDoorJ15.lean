/- A scope whose first label is where it begins; a label that the run falls into. -/
import Derived.Test.YtkjcbaikebdmmaaDoorJ14
namespace Go
section
variable {P : Program} {a : Act} {w : World} {Q : Exit → Act → World → Prop}
theorem Exit.jumps_mono {J J' : Nat → Act → World → Prop} (h : ∀ l a w, J l a w → J' l a w) : ∀ e a w, Exit.jumps J Q e a w → Exit.jumps J' Q e a w
  | .goto l, a, w, hj => h l a w hj
  | .normal, _, _, hj => hj
  | .exit _, _, _, hj => hj
  | .ret, _, _, hj => hj
  | .panic _, _, _, hj => hj
  | .outgrown, _, _, hj => hj
theorem wp_scope_fuel2 {c : Code} (J : Nat → Nat → Act → World → Prop) (l1 : Nat)
    (pass1 : ∀ n a w, J n l1 a w → ∃ x', findLabel c l1 = some (Code.skip.seq x') ∧ x'.wp P (Exit.jumps (fun l' a' w' => ∃ n', n' < n ∧ J n' l' a' w') Q) a w)
    (pass : (∀ n m a w x', n ≤ m → J n l1 a w → findLabel c l1 = some (Code.skip.seq x') → x'.wp P (Exit.jumps (fun l' a' w' => ∃ n', n' < m ∧ J n' l' a' w') Q) a w) → ∀ n l a w, l ≠ l1 → J n l a w →
      ∃ x', findLabel c l = some (Code.skip.seq x') ∧ x'.wp P (Exit.jumps (fun l' a' w' => ∃ n', n' < n ∧ J n' l' a' w') Q) a w)
    (first : (∀ n l a w x', J n l a w → findLabel c l = some (Code.skip.seq x') → x'.wp P (Exit.jumps (fun l' a' w' => ∃ n', J n' l' a' w') Q) a w) → c.wp P (Exit.jumps (fun l' a' w' => ∃ n', J n' l' a' w') Q) a w) : (Code.scope c).wp P Q a w := by
  have all : ∀ n l a w, J n l a w → ∃ x', findLabel c l = some (Code.skip.seq x') ∧ x'.wp P (Exit.jumps (fun l' a' w' => ∃ n', n' < n ∧ J n' l' a' w') Q) a w := by
    intro n l a w hJ
    by_cases hl : l = l1
    · subst hl; exact pass1 n a w hJ
    · refine pass (fun n m a w x' hm hj hf => ?_) n l a w hl hJ
      obtain ⟨y, hy, hw⟩ := pass1 n a w hj
      rw [hf] at hy
      injection hy with hy
      injection hy with _ hy
      subst hy
      exact wp_mono hw (Exit.jumps_mono fun l a w ⟨k, hk, hj⟩ => ⟨k, by omega, hj⟩)
  refine wp_scope_fuel J (first fun n l a w x' hj hf => ?_) (fun n l a w hJ => ?_)
  · obtain ⟨y, hy, hw⟩ := all n l a w hj
    rw [hf] at hy
    injection hy with hy
    injection hy with _ hy
    subst hy
    exact wp_mono hw (Exit.jumps_mono fun l a w ⟨k, _, hj⟩ => ⟨k, hj⟩)
  · obtain ⟨y, hy, hw⟩ := all n l a w hJ
    exact ⟨_, hy, wp_seq (wp_skip hw)⟩
end
end Go
