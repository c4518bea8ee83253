/- The law's first look: a known heap. -/
import Derived.Test.YtogpmpnojlepoaaL0
namespace Go.Proofs.Ytogpmpnojlepoaa
open Go Go.RowKit
set_option linter.unusedVariables false
set_option linter.unusedSimpArgs false
theorem ivals1 (x : Int) : ivals [x] = #[.int .i64 x] := rfl
theorem ivals2 (x y : Int) : ivals [x, y] = #[.int .i64 x, .int .i64 y] := rfl
/-- A row of one number that was just laid. -/
theorem one_isS (w : World) (x : Int) : IsS (w.alloc (.cells #[.int .i64 x] 3)) (.slice (some ⟨w.heap.size, 0, none⟩) 1 1) [x] := block_isS (l := [x]) (alloc_at w _)
theorem two_isS (w : World) (x y : Int) : IsS (w.alloc (.cells #[.int .i64 x, .int .i64 y] 3)) (.slice (some ⟨w.heap.size, 0, none⟩) 2 2) [x, y] := block_isS (l := [x, y]) (alloc_at w _)
theorem HL.apart {B w : World} {b : Nat} {G : Option Nat} {os : List Ob} {m : Nat} (h : HL B w b G os m) {n c : Nat} : Apart (.slice (some ⟨w.heap.size, 0, none⟩) n c) b G :=
  apart_lt rfl (by have := h.hp.1.lt; omega) (fun e => by have := (h.hp.1.glt _ e).1; omega)
theorem RetI.form {xs : List Int} {w w' : World} {e : Ending} (h : RetI xs w e w') : ∃ ao c, e = .returned (.slice ao xs.length c) ∧ w'.ownsRow w.heap.size 3 1 (.slice ao xs.length c) xs.length (xs.map (Value.int .i64)) ∧ Below w.heap.size w w' := by
  obtain ⟨v, rfl, h1, h2⟩ := h
  obtain ⟨ao, c, rfl⟩ := own_sform h1
  exact ⟨ao, c, rfl, h1, h2⟩
set_option maxHeartbeats 8000000 in
set_option maxRecDepth 100000 in
theorem known_any (w : World) : Calls Try.prog 12 #[] w (RetV (.bool true) w) := by
  have H1 := Lib.hid (HL.new (B := w) (Below.refl _ _) 10 (by omega))
  have hb1 : (w.alloc (.cells #[.slice none 0 0, .int .i64 10] 49)).heap.size = w.heap.size + 1 := by simp
  go_enter Try.func12, Try.ntmps12
  go_wp2_with fail
  refine (new_any 10 (by omega) (by omega) w).mono ?_
  rintro e w1 ⟨rfl, hw1⟩
  have e1 : w1 = w.alloc (.cells #[.slice none 0 0, .int .i64 (10 : Nat)] 49) := hw1
  rw [← e1] at H1
  clear hw1 e1 hb1
  obtain ⟨b, hb⟩ : ∃ b, b = w.heap.size := ⟨_, rfl⟩
  rw [← hb] at H1 ⊢
  clear hb
  have F23 : Hid (Calls Try.prog 23 #[.pointer (some ⟨b, 0, none⟩)] w1 fun e w' => e = .returned (.int .i64 0) ∧ w1 = w') := used_any H1.out.hp.1
  go_wp2_with fail
  refine F23.out.mono ?_
  rintro e w2 ⟨rfl, rfl⟩
  clear F23
  have HA := H1.out.apart (n := 1) (c := 1)
  have H2 := Lib.hid (H1.out.below ((Below.refl _ _).alloc (Nat.le_refl _) (.cells #[.int .i64 7] 3)))
  have F22 := Lib.hid (alloc_yes H2.out.hp 1 [] [7] (.slice none 0 0) (.slice (some ⟨w1.heap.size, 0, none⟩) 1 1) (nil_isS _) (one_isS w1 7) (apart_nil _ _) HA (by intro p hp; cases hp) (by decide) (by decide) (by decide))
  clear HA
  go_wp2_with fail
  refine F22.out.mono ?_
  rintro e w3 hr
  obtain ⟨rfl, G3, h3⟩ := H2.out.turn hr
  have H3 := Lib.hid h3
  clear F22 H2 H1 hr h3
  simp only [pair2]
  have F23 : Hid (Calls Try.prog 23 #[.pointer (some ⟨b, 0, none⟩)] w3 fun e w' => e = .returned (.int .i64 2) ∧ w3 = w') := used_any H3.out.hp.1
  have F18 : Hid (Calls Try.prog 18 #[.pointer (some ⟨b, 0, none⟩), .int .i64 0] w3 (RetV (.int .i64 1) w3)) := tagm_any H3.out.hp 0 (by omega) (by omega)
  have F28 : Hid (∀ W, Below w3.heap.size w3 W → Calls Try.prog 28 #[.pointer (some ⟨b, 0, none⟩), .int .i64 0] W (RetI [7] W)) := fun W hb => nums_o (H3.out.hp.below hb) 0 (by omega) (by omega)
  have F25 : Hid (∀ W, Below w3.heap.size w3 W → Calls Try.prog 25 #[.pointer (some ⟨b, 0, none⟩)] W (RetI [0] W)) := fun W hb => objects_o (H3.out.hp.below hb)
  have e0 : ((total ([] : List Ob) : Nat) : Int) = 0 := rfl
  simp only [e0]
  go_wp2_with fail
  refine F23.out.mono ?_
  rintro e w2 ⟨rfl, rfl⟩
  clear F23
  go_wp2_with fail
  refine F18.out.mono ?_
  rintro e w4 ⟨rfl, hb4⟩
  have HB4 := Lib.hid hb4
  clear F18 hb4
  go_wp2_with fail
  refine (F28.out w4 HB4.out).mono ?_
  rintro e w5 hr
  obtain ⟨ao, c, rfl, -, hb5⟩ := hr.form
  have HB5 := Lib.hid (HB4.out.trans (hb5.mono HB4.out.size))
  clear F28 hr hb5 HB4
  go_wp2_with fail
  refine (F25.out w5 HB5.out).mono ?_
  rintro e w6 hr
  obtain ⟨ao2, c2, rfl, -, hb6⟩ := hr.form
  have HB6 := Lib.hid (HB5.out.trans (hb6.mono HB5.out.size))
  clear F25 hr hb6 HB5
  go_wp2_with fail
  go_ret
  exact ⟨rfl, (H3.out.below HB6.out).bel⟩
end Go.Proofs.Ytogpmpnojlepoaa
