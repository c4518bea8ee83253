/- The laws' first look: the chapter's example, an object that is left. -/
import Derived.Test.YtjecjlnkpbbanaaK14
namespace Go.Proofs.Ytjecjlnkpbbanaa
open Go Go.RowKit
set_option linter.unusedVariables false
set_option linter.unusedSimpArgs false
def GcAt (B : World) (os : List Ob) (m dp : Nat) (rs : List Int) (b : Nat) (G : Option Nat) (b2 g : Nat) (G2 : Option Nat) (w' : World) : Prop :=
  HL B w' b2 G2 (gcO os dp rs) m ∧ HL B w' b G os m ∧ IRw w' g (gcR os dp rs) ∧ g ≠ b2 ∧ G2 ≠ some g ∧ b < b2 ∧ b < g ∧ (∀ k, G = some k → k < b2 ∧ k < g) ∧ B.heap.size ≤ g
theorem HL.gc {B w w' : World} {b : Nat} {G : Option Nat} {os : List Ob} {m dp : Nat} {rs : List Int} {e : Ending} (h : HL B w b G os m) (hr : RetGc os m dp rs w e w') :
    ∃ b2 g G2, e = .returned (.tuple #[.pointer (some ⟨b2, 0, none⟩), .slice (some ⟨g, 0, none⟩) rs.length rs.length, .bool true]) ∧ GcAt B os m dp rs b G b2 g G2 w' ∧ Below w.heap.size w w' ∧ w.heap.size ≤ b2 ∧ w.heap.size ≤ g := by
  obtain ⟨b2, g, G2, he, h1, h2, h3, h4, h5, h6, h7, h8⟩ := hr
  have hl := h.hp.1.lt
  have hg := h.hp.1.glt
  have hs := h.bel.size
  exact ⟨b2, g, G2, he, ⟨⟨h1, h.bel.trans (h3.mono hs), by omega, fun k hk => by have := h6 k hk; omega⟩, h.below h3, h2, h7, h8, by omega, by omega, fun k hk => by have := (hg k hk).1; omega, by omega⟩, h3, h4, h5⟩
theorem known_gc0 : gcO [newO 1 [] [1], newO 1 [] [2]] 3 [] = [] ∧ gcR [newO 1 [] [1], newO 1 [] [2]] 3 [] = [] := ⟨by kernel_rfl, by kernel_rfl⟩
theorem known_gc1 : gcO [newO 1 [] [1], newO 1 [] [2]] 3 [2] = [newO 1 [] [2]] ∧ gcR [newO 1 [] [1], newO 1 [] [2]] 3 [2] = [0] := ⟨by kernel_rfl, by kernel_rfl⟩
set_option maxHeartbeats 8000000 in
set_option maxRecDepth 100000 in
theorem known_any (w : World) : Calls Try.prog 12 #[] w (RetV (.bool true) w) := by
  have H1 := Lib.hid (HL.new (B := w) (Below.refl _ _) 20 (by omega))
  go_enter Try.func12, Try.ntmps12
  go_wp2_with fail
  refine (new_any 20 (by omega) (by omega) w).mono ?_
  rintro e w1 ⟨rfl, hw1⟩
  have e1 : w1 = w.alloc (.cells #[.slice none 0 0, .int .i64 (20 : Nat)] 75) := hw1
  rw [← e1] at H1
  clear hw1 e1
  obtain ⟨b, hb⟩ : ∃ b, b = w.heap.size := ⟨_, rfl⟩
  rw [← hb] at H1 ⊢
  clear hb
  have HA := H1.out.apart (n := 1) (c := 1)
  have H2 := Lib.hid (H1.out.below ((Below.refl _ _).alloc (Nat.le_refl _) (.cells #[.int .i64 1] 3)))
  have F22 := Lib.hid (alloc_yes H2.out.hp 1 [] [1] (.slice none 0 0) (.slice (some ⟨w1.heap.size, 0, none⟩) 1 1) (nil_isS _) (one_isS w1 1) (apart_nil _ _) HA (by intro p hp; cases hp) (by decide) (by decide) (by decide))
  clear HA
  go_wp2_with fail
  refine F22.out.mono ?_
  rintro e w3 hr
  obtain ⟨rfl, G3, h3⟩ := H2.out.turn hr
  have H3 := Lib.hid h3
  clear F22 H2 H1 hr h3
  simp only [pair2]
  have HA := H3.out.apart (n := 1) (c := 1)
  have H4 := Lib.hid (H3.out.below ((Below.refl _ _).alloc (Nat.le_refl _) (.cells #[.int .i64 2] 3)))
  have F22 := Lib.hid (alloc_yes H4.out.hp 1 [] [2] (.slice none 0 0) (.slice (some ⟨w3.heap.size, 0, none⟩) 1 1) (nil_isS _) (one_isS w3 2) (apart_nil _ _) HA (by intro p hp; cases hp) (by decide) (by decide) (by decide))
  clear HA
  go_wp2_with fail
  refine F22.out.mono ?_
  rintro e w5 hr
  obtain ⟨rfl, G5, h5⟩ := H4.out.turn hr
  have H5 : Hid (HL w w5 b G5 [newO 1 [] [1], newO 1 [] [2]] 20) := h5
  clear F22 H4 H3 hr h5
  simp only [pair2]
  have F16 := Lib.hid (collect_yes H5.out.hp 3 (by omega) (.slice none 0 0) [] (nil_isS _) (apart_nil _ _) (by simp) (by simp))
  go_wp2_with fail
  refine F16.out.mono ?_
  rintro e w6 hr
  obtain ⟨b6, g6, G6, rfl, ha6, -, -, -⟩ := H5.out.gc hr
  obtain ⟨h6, h5, h9⟩ := ha6
  rw [known_gc0.1] at h6
  have H6 := Lib.hid h6
  have H5 := Lib.hid h5
  clear F16 hr h6 h5 h9
  simp only [List.length_nil]
  have HA := H5.out.apart (n := 1) (c := 1)
  have H7 := Lib.hid (H5.out.below ((Below.refl _ _).alloc (Nat.le_refl _) (.cells #[.int .i64 2] 3)))
  have H67 := Lib.hid (H6.out.below ((Below.refl _ _).alloc (Nat.le_refl _) (.cells #[.int .i64 2] 3)))
  have F16 := Lib.hid (collect_yes H7.out.hp 3 (by omega) (.slice (some ⟨w6.heap.size, 0, none⟩) 1 1) [2] (one_isS w6 2) HA (by simp) (fun r hr => by rw [List.mem_singleton.1 hr]; exact ⟨newO 1 [] [2], by kernel_rfl⟩))
  clear HA
  go_wp2_with fail
  refine F16.out.mono ?_
  rintro e w8 hr
  obtain ⟨b8, g8, G8, rfl, ha8, hb8, -, -⟩ := H7.out.gc hr
  obtain ⟨h8, -, hi8, -⟩ := ha8
  rw [known_gc1.1] at h8
  rw [known_gc1.2] at hi8
  have H8 := Lib.hid h8
  have H68 := Lib.hid (H67.out.below hb8)
  have c8 := hi8.cell? (j := 0) (v := 0) rfl
  clear F16 hr h8 hi8 hb8 H7 H67 H6 H5
  simp only [List.length_cons, List.length_nil]
  have F0 : Hid (Calls Try.prog 20 #[.pointer (some ⟨b6, 0, none⟩)] w8 fun e w' => e = .returned (.int .i64 0) ∧ w8 = w') := used_any H68.out.hp.1
  have F1 : Hid (Calls Try.prog 20 #[.pointer (some ⟨b8, 0, none⟩)] w8 fun e w' => e = .returned (.int .i64 2) ∧ w8 = w') := used_any H8.out.hp.1
  go_wp2_with fail
  refine F0.out.mono ?_
  rintro e w9 ⟨rfl, rfl⟩
  go_wp2_with fail
  refine F1.out.mono ?_
  rintro e w9 ⟨rfl, rfl⟩
  have HB := Lib.hid H8.out.bel
  clear F0 F1 H68 H8
  go_wp2_with fail
  go_ret
  exact ⟨rfl, HB.out⟩
end Go.Proofs.Ytjecjlnkpbbanaa
