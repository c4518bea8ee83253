/- HeapOwn, walked. -/
import Derived.Test.YtogpmpnojlepoaaL4
import Derived.Test.YtogpmpnojlepoaaL3
namespace Go.Proofs.Ytogpmpnojlepoaa
open Go Go.RowKit
set_option linter.unusedVariables false
set_option linter.unusedSimpArgs false
theorem ret_row {xs : List Int} {w w' : World} {e : Ending} (h : RetI xs w e w') (h0 : 0 < xs.length) : ∃ g c, e = .returned (.slice (some ⟨g, 0, none⟩) xs.length c) ∧ w.heap.size ≤ g ∧ g < w'.heap.size ∧ (∃ cc, w'.heap[g]? = some (.cells cc 3 (0, 0))) ∧ (∀ i (hi : i < xs.length), w'.cell? ⟨g, i, none⟩ = some (.int .i64 xs[i])) ∧ Below w.heap.size w w' := by
  obtain ⟨v, rfl, ho, hb⟩ := h
  have hs := own_isS ho
  rcases ho.2 with ⟨rfl, h1⟩ | ⟨g, cap, cur, rfl, hB, hh, _⟩
  · omega
  · refine ⟨g, cap, rfl, hB, (Array.getElem?_eq_some_iff.1 hh).1, ⟨_, hh⟩, fun i hi => ?_, hb⟩
    obtain ⟨ao, c, e, _, hr⟩ := hs
    injection e with e1 e2 e3
    rcases hr with ⟨h2, _⟩ | ⟨g', o, h2, h3⟩
    · rw [h2] at e1; cases e1
    · rw [h2] at e1
      injection e1 with e1
      injection e1 with e4 e5
      subst e4 e5
      have := h3 i hi
      rw [Nat.zero_add] at this
      exact this
set_option maxHeartbeats 16000000 in
set_option maxRecDepth 100000 in
theorem own_walk (n nb : Int) (w : World) (hn : I64 n) (hb : I64 nb) : Calls Try.prog 8 #[.int .i64 n, .int .i64 nb] w (RetV (.bool true) w) := by
  go_enter Try.func8, Try.ntmps8
  go_wp2_with fail
  refine (known_any w).mono ?_
  rintro e wk ⟨rfl, hbk⟩
  have HBK := Lib.hid hbk
  clear hbk
  go_wp2_with fail
  refine (new_any 100 (by omega) (by omega) wk).mono ?_
  rintro e w1 ⟨rfl, hw1⟩
  have e1 : w1 = wk.alloc (.cells #[.slice none 0 0, .int .i64 ((100 : Nat) : Int)] 49) := hw1
  have H1 := Lib.hid (HL.new HBK.out 100 (by omega))
  rw [← e1] at H1
  clear hw1 e1
  obtain ⟨b, hb⟩ : ∃ b, b = wk.heap.size := ⟨_, rfl⟩
  rw [← hb] at H1 ⊢
  clear hb HBK
  go_wp2_with fail
  have F := Lib.hid (atom_more (i := 0) (m := 100) H1.out (by omega))
  refine F.out.mono ?_
  rintro e w2 ⟨rfl, G, h2⟩
  have H2 := Lib.hid h2
  clear F h2 H1
  obtain ⟨n1, hn1⟩ : ∃ n1, n1 = wrap64 (n + 1) := ⟨_, rfl⟩
  have hn1b : I64 n1 := by rw [hn1]; unfold I64 wrap64; omega
  have hn2 : wrap64 (n + 1) = n1 := hn1.symm
  have hn3 : IntKind.i64.wrap (n + 1) = n1 := by rw [IntKind.wrap_i64]; unfold wrap64 at hn2; exact hn2
  clear hn1
  go_upto_region 8 with fail
  have hA : Below w2.heap.size w2 (w2.alloc (.cells #[.int .i64 n, .int .i64 n1] 3)) := (Below.refl _ _).alloc (Nat.le_refl _) _
  have s1 : (w2.alloc (.cells #[.int .i64 n, .int .i64 n1] 3)).heap.size = w2.heap.size + 1 := by simp
  have hB : Below w2.heap.size w2 ((w2.alloc (.cells #[.int .i64 n, .int .i64 n1] 3)).alloc (.cells #[.int .i64 0, .int .i64 0] 3)) := hA.alloc (by omega) _
  have r1 : IRw ((w2.alloc (.cells #[.int .i64 n, .int .i64 n1] 3)).alloc (.cells #[.int .i64 0, .int .i64 0] 3)) w2.heap.size [n, n1] := (Below.heap_alloc _ _ _ (by omega)).trans (alloc_at w2 _)
  have r2 : IRw ((w2.alloc (.cells #[.int .i64 n, .int .i64 n1] 3)).alloc (.cells #[.int .i64 0, .int .i64 0] 3)) (w2.heap.size + 1) [0, 0] := by rw [← s1]; exact alloc_at _ _
  have hX : w2.heap.size ≠ b ∧ G ≠ some w2.heap.size ∧ w2.heap.size + 1 ≠ b ∧ G ≠ some (w2.heap.size + 1) := by
    have h1 := H2.out.hp.1.lt
    have h2 := H2.out.hp.1.glt
    exact ⟨by omega, fun e => by have := (h2 _ e).1; omega, by omega, fun e => by have := (h2 _ e).1; omega⟩
  have hwN : w.heap.size ≤ w2.heap.size := H2.out.bel.size
  generalize (w2.alloc (.cells #[.int .i64 n, .int .i64 n1] 3)).alloc (.cells #[.int .i64 0, .int .i64 0] 3) = W3 at hB r1 r2 ⊢
  have H3 := Lib.hid (H2.out.below hB)
  clear hA s1 hB H2
  obtain ⟨gn, hgn⟩ : ∃ gn, gn = w2.heap.size := ⟨_, rfl⟩
  rw [← hgn] at r1 r2 hX hwN ⊢
  clear hgn
  have R1 := Lib.hid r1
  have R2 := Lib.hid r2
  have HX := Lib.hid hX
  clear r1 r2 hX
  have F := Lib.hid (alloc_yes H3.out.hp 3 [0, 0] [n, n1] _ _ (R2.out.isS (n := 2) rfl) (R1.out.isS (n := 2) rfl) (apart_lt rfl HX.out.2.2.1 HX.out.2.2.2) (apart_lt rfl HX.out.1 HX.out.2.1) (by intro p hp; simp at hp; omega) (by rfl) (by decide) (by simp [sizeF]; decide))
  go_wp2_with fail
  refine F.out.mono ?_
  rintro e w4 hr
  obtain ⟨rfl, G4, h4⟩ := H3.out.turn hr
  obtain ⟨-, G5, h5, hfr, hgg⟩ := hr
  have h6 : HL w w4 b G5 (atoms (0 + 1) ++ [newO 3 [0, 0] [n, n1]]) 100 := ⟨h5, h4.bel, h4.hb, fun k hk => by
    rcases hgg k hk with h | h
    · exact H3.out.hg k h
    · have := H3.out.bel.size; omega⟩
  have r1 := R1.out.fr hfr (fun h => by rcases h with h | h; exact HX.out.1 h; exact HX.out.2.1 h)
  have r2 := R2.out.fr hfr (fun h => by rcases h with h | h; exact HX.out.2.2.1 h; exact HX.out.2.2.2 h)
  have hG5 : G5 ≠ some gn ∧ G5 ≠ some (gn + 1) := by
    have q1 := R1.out.lt
    have q2 := R2.out.lt
    exact ⟨fun e => by rcases hgg _ e with h | h; exact HX.out.2.1 h; omega, fun e => by rcases hgg _ e with h | h; exact HX.out.2.2.2 h; omega⟩
  have e2 : ((total (atoms (0 + 1)) : Nat) : Int) = 2 := by decide
  rw [e2]
  simp only [pair2]
  have HS : Hid (HL w ((w4.setCell ⟨gn, 0, none⟩ (.int .i64 nb)).setCell ⟨gn + 1, 1, none⟩ (.int .i64 nb)) b G5 (atoms (0 + 1) ++ [newO 3 [0, 0] [n, n1]]) 100) := by
    refine h6.fr (F := fun k => k = gn ∨ k = gn + 1) (((Fr.refl _ _).setCell (.inl rfl) _).setCell (.inr rfl) _) (fun h => ?_) (fun k hk h => ?_) (fun k hk h => by omega)
    · have := HX.out; omega
    · rcases h with h | h
      · exact hG5.1 (by rw [hk, h])
      · exact hG5.2 (by rw [hk, h])
  have c1 := r1.cell 0 (by simp)
  have c2 := r2.cell 1 (by simp)
  have f1 := frozen_of_row _ _ 0 _ _ r1
  have f2 := frozen_of_row _ _ 1 _ _ r2
  simp only [List.getElem_cons_zero, List.getElem_cons_succ] at c1 c2
  clear F h4 G4 h5 hfr hgg h6 r1 r2 hG5 e2 R1 R2 H3 HX
  go_upto_region 10 with fail
  generalize (w4.setCell ⟨gn, 0, none⟩ (.int .i64 nb)).setCell ⟨gn + 1, 1, none⟩ (.int .i64 nb) = W5 at HS ⊢
  have e2 : ((total (atoms (0 + 1)) : Nat) : Int) = 2 := by decide
  have FP : Hid (∀ W, HL w W b G5 (atoms (0 + 1) ++ [newO 3 [0, 0] [n, n1]]) 100 → Calls Try.prog 27 #[.pointer (some ⟨b, 0, none⟩), .int .i64 2] W (RetI [0, 0] W)) := by
    intro W h
    have h' := ptrs_o h.hp 2 (by omega) (by omega)
    have e := ptrs_new (atoms (0 + 1)) 3 [0, 0] [n, n1]
    rw [e2] at e
    rw [e] at h'
    exact h'
  have FN : Hid (∀ W, HL w W b G5 (atoms (0 + 1) ++ [newO 3 [0, 0] [n, n1]]) 100 → Calls Try.prog 28 #[.pointer (some ⟨b, 0, none⟩), .int .i64 2] W (RetI [n, n1] W)) := by
    intro W h
    have h' := nums_o h.hp 2 (by omega) (by omega)
    have e := nums_new (atoms (0 + 1)) 3 [0, 0] [n, n1]
    rw [e2] at e
    rw [e] at h'
    exact h'
  have FO : Hid (∀ W, HL w W b G5 (atoms (0 + 1) ++ [newO 3 [0, 0] [n, n1]]) 100 → Calls Try.prog 25 #[.pointer (some ⟨b, 0, none⟩)] W (RetI [0, 2] W)) := by
    intro W h
    have h' := objects_o h.hp
    have e : adrs (atoms (0 + 1) ++ [newO 3 [0, 0] [n, n1]]) = [0, 2] := by
      rw [adrs_snoc, e2]; rfl
    rw [e] at h'
    exact h'
  clear e2
  generalize atoms (0 + 1) ++ [newO 3 [0, 0] [n, n1]] = os2 at HS FP FN FO
  go_wp2_with fail
  refine (FP.out W5 HS.out).mono ?_
  rintro e w6 hr
  obtain ⟨gp, cp, rfl, p1, p2, ⟨pc, p3⟩, p4, hb6⟩ := ret_row hr (by simp)
  have H6 := Lib.hid (HS.out.below hb6)
  have HB6 := Lib.hid hb6
  simp only [List.length_cons, List.length_nil]
  clear hr hb6
  go_wp2_with fail
  refine (FN.out w6 H6.out).mono ?_
  rintro e w7 hr
  obtain ⟨gq, cq, rfl, q1, q2, ⟨qc, q3⟩, q4, hb7⟩ := ret_row hr (by simp)
  have H7 := Lib.hid (H6.out.below hb7)
  have HB7 := Lib.hid hb7
  simp only [List.length_cons, List.length_nil]
  clear hr hb7 H6
  go_wp2_with fail
  refine (FO.out w7 H7.out).mono ?_
  rintro e w8 hr
  obtain ⟨gr, cr, rfl, r1, r2, ⟨rc, r3⟩, r4, hb8⟩ := ret_row hr (by simp)
  have H8 := Lib.hid (H7.out.below hb8)
  simp only [List.length_cons, List.length_nil]
  have p4' := p4
  have d0 := p4 0 (by simp)
  have d1 := p4 1 (by simp)
  have d2 := q4 0 (by simp)
  have d3 := q4 1 (by simp)
  have d4 := r4 0 (by simp)
  simp only [List.getElem_cons_zero, List.getElem_cons_succ] at d0 d1 d2 d3 d4
  have g0 : w8.cell? ⟨gp, 0, none⟩ = some (.int .i64 0) := (hb8.cell (p := ⟨gp, 0, none⟩) (by have := HB7.out.size; show gp < _; omega)).trans ((HB7.out.cell (p := ⟨gp, 0, none⟩) p2).trans d0)
  have g1 : w8.cell? ⟨gp, 1, none⟩ = some (.int .i64 0) := (hb8.cell (p := ⟨gp, 1, none⟩) (by have := HB7.out.size; show gp < _; omega)).trans ((HB7.out.cell (p := ⟨gp, 1, none⟩) p2).trans d1)
  have g2 : w8.cell? ⟨gq, 0, none⟩ = some (.int .i64 n) := (hb8.cell (p := ⟨gq, 0, none⟩) q2).trans d2
  have g3 : w8.cell? ⟨gq, 1, none⟩ = some (.int .i64 n1) := (hb8.cell (p := ⟨gq, 1, none⟩) q2).trans d3
  have z1 : w8.frozen? ⟨gp, 0, none⟩ = false := frozen_of_row _ _ _ _ _ ((hb8.block gp (by have := HB7.out.size; omega)).trans ((HB7.out.block gp p2).trans p3))
  have z2 : w8.frozen? ⟨gq, 1, none⟩ = false := frozen_of_row _ _ _ _ _ ((hb8.block gq q2).trans q3)
  have z3 : w8.frozen? ⟨gr, 0, none⟩ = false := frozen_of_row _ _ _ _ _ r3
  have hne1 : gp ≠ gq := by omega
  have hs7 : w6.heap.size ≤ w7.heap.size := HB7.out.size
  have hne2 : gp ≠ gr := by omega
  have hne3 : gq ≠ gr := by omega
  have hS5 : b < W5.heap.size := HS.out.hp.1.lt
  have hG5 := HS.out.hp.1.glt
  have hw5 : w.heap.size ≤ W5.heap.size := HS.out.bel.size
  have hs6 : W5.heap.size ≤ w6.heap.size := HB6.out.size
  have HS9 : Hid (HL w (((w8.setCell ⟨gp, 0, none⟩ (.int .i64 nb)).setCell ⟨gq, 1, none⟩ (.int .i64 nb)).setCell ⟨gr, 0, none⟩ (.int .i64 nb)) b G5 os2 100) := by
    refine H8.out.fr (F := fun k => k = gp ∨ k = gq ∨ k = gr) ((((Fr.refl _ _).setCell (.inl rfl) _).setCell (.inr (.inl rfl)) _).setCell (.inr (.inr rfl)) _) (fun h => ?_) (fun k hk h => ?_) (fun k hk h => ?_)
    · omega
    · have := (hG5 k hk).1; omega
    · omega
  clear hr hb8 p3 p4 p4' q3 q4 r3 r4 d0 d1 d2 d3 HS H7 H8 HB6 HB7 hG5 hS5 hw5
  go_upto_region 14 with fail
  generalize ((w8.setCell ⟨gp, 0, none⟩ (.int .i64 nb)).setCell ⟨gq, 1, none⟩ (.int .i64 nb)).setCell ⟨gr, 0, none⟩ (.int .i64 nb) = W9 at HS9 ⊢
  clear g0 g1 g2 g3 z1 z2 z3 d4 c1 c2 f1 f2
  go_wp2_with fail
  refine (FP.out W9 HS9.out).mono ?_
  rintro e u1 hr
  obtain ⟨a1, e1, rfl, ho1, hb1⟩ := hr.form
  have H1 := Lib.hid (HS9.out.below hb1)
  have R1 := Lib.hid (own_isS ho1)
  simp only [List.length_cons, List.length_nil] at R1 ⊢
  clear hr ho1 hb1
  go_wp2_with fail
  refine (FN.out u1 H1.out).mono ?_
  rintro e u2 hr
  obtain ⟨a2, e2, rfl, ho2, hb2⟩ := hr.form
  have H2 := Lib.hid (H1.out.below hb2)
  have R1 := Lib.hid (R1.out.below hb2)
  have R2 := Lib.hid (own_isS ho2)
  simp only [List.length_cons, List.length_nil] at R2 ⊢
  clear hr ho2 hb2 H1
  go_wp2_with fail
  refine (FO.out u2 H2.out).mono ?_
  rintro e u3 hr
  obtain ⟨a3, e3, rfl, ho3, hb3⟩ := hr.form
  have H3 := Lib.hid (H2.out.below hb3)
  have R1 := Lib.hid (R1.out.below hb3)
  have R2 := Lib.hid (R2.out.below hb3)
  have R3 := Lib.hid (own_isS ho3)
  simp only [List.length_cons, List.length_nil] at R3 ⊢
  clear hr ho3 hb3 H2
  have hA := (Below.refl u3.heap.size u3).alloc (Nat.le_refl _) (.cells #[.int .i64 0, .int .i64 0] 3)
  have F1 := Lib.hid (ints_eq (R1.out.below hA) (two_isS u3 0 0) (by simp))
  have H4 := Lib.hid (H3.out.below hA)
  have R2 := Lib.hid (R2.out.below hA)
  have R3 := Lib.hid (R3.out.below hA)
  clear hA H3
  go_wp2_with fail
  refine F1.out.mono ?_
  rintro e u4 ⟨rfl, hb4⟩
  have H5 := Lib.hid (H4.out.below hb4)
  have R2 := Lib.hid (R2.out.below hb4)
  have R3 := Lib.hid (R3.out.below hb4)
  clear hb4 H4 F1
  have hA := (Below.refl u4.heap.size u4).alloc (Nat.le_refl _) (.cells #[.int .i64 n, .int .i64 n1] 3)
  have F1 := Lib.hid (ints_eq (R2.out.below hA) (two_isS u4 n n1) (by simp))
  have H6 := Lib.hid (H5.out.below hA)
  have R3 := Lib.hid (R3.out.below hA)
  clear hA H5
  go_wp2_with fail
  refine F1.out.mono ?_
  rintro e u5 ⟨rfl, hb5⟩
  have H7 := Lib.hid (H6.out.below hb5)
  have R3 := Lib.hid (R3.out.below hb5)
  clear hb5 H6 F1
  have hA := (Below.refl u5.heap.size u5).alloc (Nat.le_refl _) (.cells #[.int .i64 0, .int .i64 2] 3)
  have F1 := Lib.hid (ints_eq (R3.out.below hA) (two_isS u5 0 2) (by simp))
  have H8 := Lib.hid (H7.out.below hA)
  clear hA H7
  go_wp2_with fail
  refine F1.out.mono ?_
  rintro e u6 ⟨rfl, hb6⟩
  have H9 := Lib.hid (H8.out.below hb6)
  clear hb6 H8 F1
  go_wp2_with fail
  go_ret
  exact ⟨rfl, H9.out.bel⟩
end Go.Proofs.Ytogpmpnojlepoaa
