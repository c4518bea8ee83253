/- Make's contract. -/
import Derived.Test.YtmcgocbkjdacaaaDoorMN2
import Derived.Test.YtmcgocbkjdacaaaDoorMK5
import Derived.Test.YtmcgocbkjdacaaaDoorMK6
namespace Go.Proofs.YtmcgocbkjdacaaaDoor
open Go.RowKit Go.BigM
set_option linter.unusedVariables false
set_option linter.unusedSimpArgs false
theorem cnt_mem {r : Rw} : ∀ {pl : List Rw}, r ∈ pl → r.cnt ≤ Rw.cnts pl
  | x :: l, h => by
    rcases List.mem_cons.1 h with rfl | h
    · simp only [Rw.cnts]; omega
    · have := cnt_mem h
      simp only [Rw.cnts]; omega
theorem make_any (N : Nat) : ∀ (r : Rw), r.cnt ≤ N → MkC r := by
  induction N with
  | zero =>
    intro r h
    cases r with
    | mk k n pl => simp only [Rw.cnt] at h; omega
  | succ N IH =>
    intro r h
    cases r with
    | mk k n pl =>
      simp only [Rw.cnt] at h
      have ih : ∀ r ∈ pl, MkC r := fun r hr => IH r (by have := cnt_mem hr; omega)
      intro w0 w g m sc scv P hm po pc hR hk hn
      simp only [Rw.cnt, Rw.num, Rw.at_, Rw.parts] at hm hR hk hn ⊢
      have h1 : 0 ≤ k % 16 := Int.emod_nonneg k (by decide)
      have h2 : k % 16 < 16 := Int.emod_lt_of_pos k (by decide)
      have h3 : k % 16 = 0 ∨ k % 16 = 1 ∨ k % 16 = 2 ∨ k % 16 = 3 ∨ k % 16 = 4 ∨ k % 16 = 5 ∨ k % 16 = 6 ∨ k % 16 = 7 ∨ k % 16 = 8 ∨ k % 16 = 9 ∨ k % 16 = 10 ∨ k % 16 = 11 ∨ k % 16 = 12 ∨ k % 16 = 13 ∨ k % 16 = 14 ∨ k % 16 = 15 := by omega
      rcases h3 with h3 | h3 | h3 | h3 | h3 | h3 | h3 | h3 | h3 | h3 | h3 | h3 | h3 | h3 | h3 | h3
      · exact make0 k n pl ih w0 w g m sc scv P po pc hm hR hk hn h3
      · exact make1 k n pl ih w0 w g m sc scv P po pc hm hR hk hn h3
      · exact make2 k n pl ih w0 w g m sc scv P po pc hm hR hk hn h3
      · exact make3 k n pl ih w0 w g m sc scv P po pc hm hR hk hn h3
      · exact make4 k n pl ih w0 w g m sc scv P po pc hm hR hk hn h3
      · exact make5 k n pl ih w0 w g m sc scv P po pc hm hR hk hn h3
      · exact make6 k n pl ih w0 w g m sc scv P po pc hm hR hk hn h3
      · exact make7 k n pl ih w0 w g m sc scv P po pc hm hR hk hn h3
      · exact make8 k n pl ih w0 w g m sc scv P po pc hm hR hk hn h3
      · exact make9 k n pl ih w0 w g m sc scv P po pc hm hR hk hn h3
      · exact make10 k n pl ih w0 w g m sc scv P po pc hm hR hk hn h3
      · exact make11 k n pl ih w0 w g m sc scv P po pc hm hR hk hn h3
      · exact make12 k n pl ih w0 w g m sc scv P po pc hm hR hk hn h3
      · exact make13 k n pl ih w0 w g m sc scv P po pc hm hR hk hn h3
      · exact make14 k n pl ih w0 w g m sc scv P po pc hm hR hk hn h3
      · exact make15 k n pl ih w0 w g m sc scv P po pc hm hR hk hn h3
end Go.Proofs.YtmcgocbkjdacaaaDoor
