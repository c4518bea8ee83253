/- The contracts of the document's shape and Right. -/
import Derived.Test.YtmcgocbkjdacaaaDoorZB
namespace Go.Proofs.YtmcgocbkjdacaaaDoor
open Go.RowKit Go.BigM
set_option linter.unusedVariables false
set_option linter.unusedSimpArgs false
set_option maxHeartbeats 8000000 in
set_option maxRecDepth 100000 in
theorem shape_any (k : Int) (t : ByteArray) (ns : List ByteArray) (n : Nat) (S : Nat → Prop) (ao bo : Option Addr) (mc nc : Nat) (w : World) (h : NAt S w (.slice ao ns.length mc) ns) (ht : t.size ≤ 5000) (hm : ns.length ≤ 1000) (hn : n ≤ 100000) :
    Calls Tryd.prog 41 #[.agg #[.int .i64 k, .string t, .slice ao ns.length mc, .slice bo n nc]] w (RetBool (shapeB num k t ns n) w) := by
  have hb0 := (Below.refl w.heap.size w).alloc (Nat.le_refl _) (.cells #[.int .i64 k, .string t, .slice ao ns.length mc, .slice bo n nc] 28)
  have HB := Lib.hid hb0
  have HG := Lib.hid (alloc_at w (.cells #[.int .i64 k, .string t, .slice ao ns.length mc, .slice bo n nc] 28))
  have HR := Lib.hid (fun w => refRight_any t w ht)
  have HA := Lib.hid (fun w => refarity_any t w)
  have HO := Lib.hid (fun w' (hw' : Below w.heap.size w w') => once_any ns S (.slice ao ns.length mc) w' (h.keeps (Keeps.of_below hw')) hm)
  obtain ⟨m, hmm⟩ : ∃ m, m = ns.length := ⟨_, rfl⟩
  obtain ⟨bo1, hbo⟩ : ∃ b, decide (Once ns) = b := ⟨_, rfl⟩
  obtain ⟨ar, har⟩ : ∃ a, arity t = a := ⟨_, rfl⟩
  obtain ⟨bn, hbn⟩ : ∃ b, decide (Canon t.data.toList) = b := ⟨_, rfl⟩
  have hSH : shapeB num k t ns n = (textB num k t && (if k = 6 ∨ k = 9 then decide (0 < m) && bo1 else decide (m = 0)) && partsB k t m n) := by unfold shapeB namesB; rw [hbo, ← hmm]
  have HSH := Lib.hid hSH
  have HAR := Lib.hid har
  have HBN : Hid (num t = bn) := hbn
  rw [hbo] at HO
  rw [har] at HA
  rw [hbn] at HR
  rw [← hmm] at hm HB HG HO ⊢
  have hmm2 := Lib.hid hmm
  clear hmm hbo har hbn hSH hb0 h
  simp only [← hmm2.out] at *
  by_cases q1 : k = 1
  · subst q1
    obtain ⟨z, hz⟩ : ∃ b, (((n : Int) + (m : Int)) == 0) = b := ⟨_, rfl⟩
    have HE : Hid (shapeB num 1 t ns n = (bn && z)) := by
      show _ = _
      rw [HSH.out]
      have hz2 : z = (decide (m = 0) && decide (n = 0)) := by rw [← hz, Bool.eq_iff_iff]; simp; omega
      rw [hz2]; simp [textB, partsB, HBN.out, Bool.and_assoc]
    clear HSH HAR HBN
    go_enter Tryd.func41, Tryd.ntmps41
    go_upto_region 1 with fail
    go_region
    have HB1 := Lib.hid HB.out.drew
    have HG1 : Hid ((w.alloc (.cells #[.int .i64 1, .string t, .slice ao m mc, .slice bo n nc] 28)).drew.heap[w.heap.size]? = some (.cells #[.int .i64 1, .string t, .slice ao m mc, .slice bo n nc] 28 (0, 0))) := HG.out
    generalize (w.alloc (.cells #[.int .i64 1, .string t, .slice ao m mc, .slice bo n nc] 28)).drew = W at HB1 HG1 ⊢
    have c0 : W.cell? ⟨w.heap.size, 0, none⟩ = some (.int .i64 1) := by rw [Lib.cell_of_heap HG1.out]; rfl
    have c1 : W.cell? ⟨w.heap.size, 1, none⟩ = some (.string t) := by rw [Lib.cell_of_heap HG1.out]; rfl
    have c2 : W.cell? ⟨w.heap.size, 2, none⟩ = some (.slice ao m mc) := by rw [Lib.cell_of_heap HG1.out]; rfl
    go_wp2_with fail
    refine (HR.out _).mono ?_
    rintro e w1 ⟨rfl, rfl⟩
    cases bn
    · skip
      go_wp2_with fail
      go_ret
      exact ⟨by rw [HE.out]; first | rfl | simp, HB1.out⟩
    go_wp2_with fail
    go_ret
    exact ⟨by rw [HE.out]; first | rfl | simp, HB1.out⟩
  by_cases q2 : k = 2
  · subst q2
    obtain ⟨b1, hb1⟩ : ∃ b, (t.toList == [35, 116]) = b := ⟨_, rfl⟩
    obtain ⟨b2, hb2⟩ : ∃ b, (t.toList == [35, 102]) = b := ⟨_, rfl⟩
    obtain ⟨z, hz⟩ : ∃ b, (((n : Int) + (m : Int)) == 0) = b := ⟨_, rfl⟩
    have HE : Hid (shapeB num 2 t ns n = ((b1 || b2) && z)) := by
      show _ = _
      rw [HSH.out]
      have hz2 : z = (decide (m = 0) && decide (n = 0)) := by rw [← hz, Bool.eq_iff_iff]; simp; omega
      rw [hz2]; simp [textB, partsB, hb1, hb2, Bool.and_assoc]
    clear HSH HAR HBN
    go_enter Tryd.func41, Tryd.ntmps41
    go_upto_region 1 with fail
    go_region
    have HB1 := Lib.hid HB.out.drew
    have HG1 : Hid ((w.alloc (.cells #[.int .i64 2, .string t, .slice ao m mc, .slice bo n nc] 28)).drew.heap[w.heap.size]? = some (.cells #[.int .i64 2, .string t, .slice ao m mc, .slice bo n nc] 28 (0, 0))) := HG.out
    generalize (w.alloc (.cells #[.int .i64 2, .string t, .slice ao m mc, .slice bo n nc] 28)).drew = W at HB1 HG1 ⊢
    have c0 : W.cell? ⟨w.heap.size, 0, none⟩ = some (.int .i64 2) := by rw [Lib.cell_of_heap HG1.out]; rfl
    have c1 : W.cell? ⟨w.heap.size, 1, none⟩ = some (.string t) := by rw [Lib.cell_of_heap HG1.out]; rfl
    have c2 : W.cell? ⟨w.heap.size, 2, none⟩ = some (.slice ao m mc) := by rw [Lib.cell_of_heap HG1.out]; rfl
    cases b1
    · cases b2
      · skip
        go_wp2_with fail
        go_ret
        exact ⟨by rw [HE.out]; first | rfl | simp, HB1.out⟩
      · skip
        go_wp2_with fail
        go_ret
        exact ⟨by rw [HE.out]; first | rfl | simp, HB1.out⟩
    · skip
      go_wp2_with fail
      go_ret
      exact ⟨by rw [HE.out]; first | rfl | simp, HB1.out⟩
  by_cases q3 : k = 3
  · subst q3
    obtain ⟨b1, hb1⟩ : ∃ b, t.toList.isEmpty = b := ⟨_, rfl⟩
    obtain ⟨z, hz⟩ : ∃ b, (((n : Int) + (m : Int)) == 0) = b := ⟨_, rfl⟩
    have HE : Hid (shapeB num 3 t ns n = (b1 && z)) := by
      show _ = _
      rw [HSH.out]
      have hz2 : z = (decide (m = 0) && decide (n = 0)) := by rw [← hz, Bool.eq_iff_iff]; simp; omega
      rw [hz2]; simp [textB, partsB, hb1, Bool.and_assoc]
    clear HSH HAR HBN
    have hb1' : (t.toList == []) = b1 := by rw [← isEmpty_eq]; exact hb1
    go_enter Tryd.func41, Tryd.ntmps41
    go_upto_region 1 with fail
    go_region
    have HB1 := Lib.hid HB.out.drew
    have HG1 : Hid ((w.alloc (.cells #[.int .i64 3, .string t, .slice ao m mc, .slice bo n nc] 28)).drew.heap[w.heap.size]? = some (.cells #[.int .i64 3, .string t, .slice ao m mc, .slice bo n nc] 28 (0, 0))) := HG.out
    generalize (w.alloc (.cells #[.int .i64 3, .string t, .slice ao m mc, .slice bo n nc] 28)).drew = W at HB1 HG1 ⊢
    have c0 : W.cell? ⟨w.heap.size, 0, none⟩ = some (.int .i64 3) := by rw [Lib.cell_of_heap HG1.out]; rfl
    have c1 : W.cell? ⟨w.heap.size, 1, none⟩ = some (.string t) := by rw [Lib.cell_of_heap HG1.out]; rfl
    have c2 : W.cell? ⟨w.heap.size, 2, none⟩ = some (.slice ao m mc) := by rw [Lib.cell_of_heap HG1.out]; rfl
    cases b1
    · skip
      go_wp2_with fail
      go_ret
      exact ⟨by rw [HE.out]; first | rfl | simp, HB1.out⟩
    · skip
      go_wp2_with fail
      go_ret
      exact ⟨by rw [HE.out]; first | rfl | simp, HB1.out⟩
  by_cases q4 : k = 4
  · subst q4
    obtain ⟨b1, hb1⟩ : ∃ b, t.toList.isEmpty = b := ⟨_, rfl⟩
    obtain ⟨z, hz⟩ : ∃ b, (((n : Int) + (m : Int)) == 0) = b := ⟨_, rfl⟩
    have HE : Hid (shapeB num 4 t ns n = (!b1 && z)) := by
      show _ = _
      rw [HSH.out]
      have hz2 : z = (decide (m = 0) && decide (n = 0)) := by rw [← hz, Bool.eq_iff_iff]; simp; omega
      rw [hz2]; simp [textB, partsB, hb1, Bool.and_assoc]
    clear HSH HAR HBN
    have hb1' : (t.toList == []) = b1 := by rw [← isEmpty_eq]; exact hb1
    go_enter Tryd.func41, Tryd.ntmps41
    go_upto_region 1 with fail
    go_region
    have HB1 := Lib.hid HB.out.drew
    have HG1 : Hid ((w.alloc (.cells #[.int .i64 4, .string t, .slice ao m mc, .slice bo n nc] 28)).drew.heap[w.heap.size]? = some (.cells #[.int .i64 4, .string t, .slice ao m mc, .slice bo n nc] 28 (0, 0))) := HG.out
    generalize (w.alloc (.cells #[.int .i64 4, .string t, .slice ao m mc, .slice bo n nc] 28)).drew = W at HB1 HG1 ⊢
    have c0 : W.cell? ⟨w.heap.size, 0, none⟩ = some (.int .i64 4) := by rw [Lib.cell_of_heap HG1.out]; rfl
    have c1 : W.cell? ⟨w.heap.size, 1, none⟩ = some (.string t) := by rw [Lib.cell_of_heap HG1.out]; rfl
    have c2 : W.cell? ⟨w.heap.size, 2, none⟩ = some (.slice ao m mc) := by rw [Lib.cell_of_heap HG1.out]; rfl
    cases b1
    · skip
      go_wp2_with fail
      go_ret
      exact ⟨by rw [HE.out]; first | rfl | simp, HB1.out⟩
    · skip
      go_wp2_with fail
      go_ret
      exact ⟨by rw [HE.out]; first | rfl | simp, HB1.out⟩
  by_cases q5 : k = 5
  · subst q5
    obtain ⟨b1, hb1⟩ : ∃ b, t.toList.isEmpty = b := ⟨_, rfl⟩
    obtain ⟨z, hz⟩ : ∃ b, (((n : Int) + (m : Int)) == 0) = b := ⟨_, rfl⟩
    have HE : Hid (shapeB num 5 t ns n = (!b1 && z)) := by
      show _ = _
      rw [HSH.out]
      have hz2 : z = (decide (m = 0) && decide (n = 0)) := by rw [← hz, Bool.eq_iff_iff]; simp; omega
      rw [hz2]; simp [textB, partsB, hb1, Bool.and_assoc]
    clear HSH HAR HBN
    have hb1' : (t.toList == []) = b1 := by rw [← isEmpty_eq]; exact hb1
    go_enter Tryd.func41, Tryd.ntmps41
    go_upto_region 1 with fail
    go_region
    have HB1 := Lib.hid HB.out.drew
    have HG1 : Hid ((w.alloc (.cells #[.int .i64 5, .string t, .slice ao m mc, .slice bo n nc] 28)).drew.heap[w.heap.size]? = some (.cells #[.int .i64 5, .string t, .slice ao m mc, .slice bo n nc] 28 (0, 0))) := HG.out
    generalize (w.alloc (.cells #[.int .i64 5, .string t, .slice ao m mc, .slice bo n nc] 28)).drew = W at HB1 HG1 ⊢
    have c0 : W.cell? ⟨w.heap.size, 0, none⟩ = some (.int .i64 5) := by rw [Lib.cell_of_heap HG1.out]; rfl
    have c1 : W.cell? ⟨w.heap.size, 1, none⟩ = some (.string t) := by rw [Lib.cell_of_heap HG1.out]; rfl
    have c2 : W.cell? ⟨w.heap.size, 2, none⟩ = some (.slice ao m mc) := by rw [Lib.cell_of_heap HG1.out]; rfl
    cases b1
    · skip
      go_wp2_with fail
      go_ret
      exact ⟨by rw [HE.out]; first | rfl | simp, HB1.out⟩
    · skip
      go_wp2_with fail
      go_ret
      exact ⟨by rw [HE.out]; first | rfl | simp, HB1.out⟩
  by_cases q6 : k = 6
  · subst q6
    obtain ⟨b1, hb1⟩ : ∃ b, t.toList.isEmpty = b := ⟨_, rfl⟩
    have hb1' : (t.toList == []) = b1 := by rw [← isEmpty_eq]; exact hb1
    by_cases hm0 : 0 < m
    · have q20 : decide ((0 : Int) < (m : Int)) = true := decide_eq_true (by omega)
      obtain ⟨b3, hb3⟩ : ∃ b, ((n : Int) == 1) = b := ⟨_, rfl⟩
      have hp : partsB 6 t m n = b3 := by rw [← hb3, Bool.eq_iff_iff]; simp [partsB]; omega
      have HE : Hid (shapeB num 6 t ns n = (b1 && b3 && bo1)) := by
        show _ = _
        rw [HSH.out, hp]
        simp [textB, hb1, hm0]
        cases b1 <;> cases b3 <;> cases bo1 <;> rfl
      clear HSH HAR HBN hp
      go_enter Tryd.func41, Tryd.ntmps41
      go_upto_region 1 with fail
      go_region
      have HB1 := Lib.hid HB.out.drew
      have HG1 : Hid ((w.alloc (.cells #[.int .i64 6, .string t, .slice ao m mc, .slice bo n nc] 28)).drew.heap[w.heap.size]? = some (.cells #[.int .i64 6, .string t, .slice ao m mc, .slice bo n nc] 28 (0, 0))) := HG.out
      generalize (w.alloc (.cells #[.int .i64 6, .string t, .slice ao m mc, .slice bo n nc] 28)).drew = W at HB1 HG1 ⊢
      have c0 : W.cell? ⟨w.heap.size, 0, none⟩ = some (.int .i64 6) := by rw [Lib.cell_of_heap HG1.out]; rfl
      have c1 : W.cell? ⟨w.heap.size, 1, none⟩ = some (.string t) := by rw [Lib.cell_of_heap HG1.out]; rfl
      have c2 : W.cell? ⟨w.heap.size, 2, none⟩ = some (.slice ao m mc) := by rw [Lib.cell_of_heap HG1.out]; rfl
      cases b1
      · skip
        go_wp2_with fail
        go_ret
        exact ⟨by rw [HE.out]; first | rfl | simp, HB1.out⟩
      cases b3
      · skip
        go_wp2_with fail
        go_ret
        exact ⟨by rw [HE.out]; first | rfl | simp, HB1.out⟩
      have HOO := Lib.hid (HO.out W HB1.out)
      go_wp2_with fail
      refine HOO.out.mono ?_
      rintro e w2 ⟨rfl, hb⟩
      have HB2 := Lib.hid (HB1.out.trans (hb.mono HB1.out.size))
      clear hb
      go_wp2_with fail
      go_ret
      exact ⟨by rw [HE.out]; first | rfl | simp, HB2.out⟩
    · have q20 : decide ((0 : Int) < (m : Int)) = false := decide_eq_false (by omega)
      have HE : Hid (shapeB num 6 t ns n = false) := by
        show _ = _
        rw [HSH.out]
        simp [hm0]
      clear HSH HAR HBN
      go_enter Tryd.func41, Tryd.ntmps41
      go_upto_region 1 with fail
      go_region
      have HB1 := Lib.hid HB.out.drew
      have HG1 : Hid ((w.alloc (.cells #[.int .i64 6, .string t, .slice ao m mc, .slice bo n nc] 28)).drew.heap[w.heap.size]? = some (.cells #[.int .i64 6, .string t, .slice ao m mc, .slice bo n nc] 28 (0, 0))) := HG.out
      generalize (w.alloc (.cells #[.int .i64 6, .string t, .slice ao m mc, .slice bo n nc] 28)).drew = W at HB1 HG1 ⊢
      have c0 : W.cell? ⟨w.heap.size, 0, none⟩ = some (.int .i64 6) := by rw [Lib.cell_of_heap HG1.out]; rfl
      have c1 : W.cell? ⟨w.heap.size, 1, none⟩ = some (.string t) := by rw [Lib.cell_of_heap HG1.out]; rfl
      have c2 : W.cell? ⟨w.heap.size, 2, none⟩ = some (.slice ao m mc) := by rw [Lib.cell_of_heap HG1.out]; rfl
      cases b1
      · skip
        go_wp2_with fail
        go_ret
        exact ⟨by rw [HE.out]; first | rfl | simp, HB1.out⟩
      go_wp2_with fail
      go_ret
      exact ⟨by rw [HE.out]; first | rfl | simp, HB1.out⟩
  by_cases q9 : k = 9
  · subst q9
    obtain ⟨b1, hb1⟩ : ∃ b, t.toList.isEmpty = b := ⟨_, rfl⟩
    have hb1' : (t.toList == []) = b1 := by rw [← isEmpty_eq]; exact hb1
    by_cases hm0 : 0 < m
    · have q20 : decide ((0 : Int) < (m : Int)) = true := decide_eq_true (by omega)
      obtain ⟨b3, hb3⟩ : ∃ b, ((n : Int) == (m : Int) + 1) = b := ⟨_, rfl⟩
      have hp : partsB 9 t m n = b3 := by rw [← hb3, Bool.eq_iff_iff]; simp [partsB]; omega
      have HE : Hid (shapeB num 9 t ns n = (b1 && b3 && bo1)) := by
        show _ = _
        rw [HSH.out, hp]
        simp [textB, hb1, hm0]
        cases b1 <;> cases b3 <;> cases bo1 <;> rfl
      clear HSH HAR HBN hp
      go_enter Tryd.func41, Tryd.ntmps41
      go_upto_region 1 with fail
      go_region
      have HB1 := Lib.hid HB.out.drew
      have HG1 : Hid ((w.alloc (.cells #[.int .i64 9, .string t, .slice ao m mc, .slice bo n nc] 28)).drew.heap[w.heap.size]? = some (.cells #[.int .i64 9, .string t, .slice ao m mc, .slice bo n nc] 28 (0, 0))) := HG.out
      generalize (w.alloc (.cells #[.int .i64 9, .string t, .slice ao m mc, .slice bo n nc] 28)).drew = W at HB1 HG1 ⊢
      have c0 : W.cell? ⟨w.heap.size, 0, none⟩ = some (.int .i64 9) := by rw [Lib.cell_of_heap HG1.out]; rfl
      have c1 : W.cell? ⟨w.heap.size, 1, none⟩ = some (.string t) := by rw [Lib.cell_of_heap HG1.out]; rfl
      have c2 : W.cell? ⟨w.heap.size, 2, none⟩ = some (.slice ao m mc) := by rw [Lib.cell_of_heap HG1.out]; rfl
      cases b1
      · skip
        go_wp2_with fail
        go_ret
        exact ⟨by rw [HE.out]; first | rfl | simp, HB1.out⟩
      cases b3
      · skip
        go_wp2_with fail
        go_ret
        exact ⟨by rw [HE.out]; first | rfl | simp, HB1.out⟩
      have HOO := Lib.hid (HO.out W HB1.out)
      go_wp2_with fail
      refine HOO.out.mono ?_
      rintro e w2 ⟨rfl, hb⟩
      have HB2 := Lib.hid (HB1.out.trans (hb.mono HB1.out.size))
      clear hb
      go_wp2_with fail
      go_ret
      exact ⟨by rw [HE.out]; first | rfl | simp, HB2.out⟩
    · have q20 : decide ((0 : Int) < (m : Int)) = false := decide_eq_false (by omega)
      have HE : Hid (shapeB num 9 t ns n = false) := by
        show _ = _
        rw [HSH.out]
        simp [hm0]
      clear HSH HAR HBN
      go_enter Tryd.func41, Tryd.ntmps41
      go_upto_region 1 with fail
      go_region
      have HB1 := Lib.hid HB.out.drew
      have HG1 : Hid ((w.alloc (.cells #[.int .i64 9, .string t, .slice ao m mc, .slice bo n nc] 28)).drew.heap[w.heap.size]? = some (.cells #[.int .i64 9, .string t, .slice ao m mc, .slice bo n nc] 28 (0, 0))) := HG.out
      generalize (w.alloc (.cells #[.int .i64 9, .string t, .slice ao m mc, .slice bo n nc] 28)).drew = W at HB1 HG1 ⊢
      have c0 : W.cell? ⟨w.heap.size, 0, none⟩ = some (.int .i64 9) := by rw [Lib.cell_of_heap HG1.out]; rfl
      have c1 : W.cell? ⟨w.heap.size, 1, none⟩ = some (.string t) := by rw [Lib.cell_of_heap HG1.out]; rfl
      have c2 : W.cell? ⟨w.heap.size, 2, none⟩ = some (.slice ao m mc) := by rw [Lib.cell_of_heap HG1.out]; rfl
      cases b1
      · skip
        go_wp2_with fail
        go_ret
        exact ⟨by rw [HE.out]; first | rfl | simp, HB1.out⟩
      go_wp2_with fail
      go_ret
      exact ⟨by rw [HE.out]; first | rfl | simp, HB1.out⟩
  by_cases q7 : k = 7
  · subst q7
    obtain ⟨b1, hb1⟩ : ∃ b, t.toList.isEmpty = b := ⟨_, rfl⟩
    obtain ⟨b2, hb2⟩ : ∃ b, ((m : Int) == 0) = b := ⟨_, rfl⟩
    obtain ⟨b3, hb3⟩ : ∃ b, decide (2 ≤ (n : Int)) = b := ⟨_, rfl⟩
    have HE : Hid (shapeB num 7 t ns n = (b1 && b2 && b3)) := by
      show _ = _
      rw [HSH.out]
      rw [Bool.eq_iff_iff]; simp [textB, partsB, hb1, ← hb2, ← hb3]; (try omega)
    clear HSH HAR HBN
    have hb1' : (t.toList == []) = b1 := by rw [← isEmpty_eq]; exact hb1
    go_enter Tryd.func41, Tryd.ntmps41
    go_upto_region 1 with fail
    go_region
    have HB1 := Lib.hid HB.out.drew
    have HG1 : Hid ((w.alloc (.cells #[.int .i64 7, .string t, .slice ao m mc, .slice bo n nc] 28)).drew.heap[w.heap.size]? = some (.cells #[.int .i64 7, .string t, .slice ao m mc, .slice bo n nc] 28 (0, 0))) := HG.out
    generalize (w.alloc (.cells #[.int .i64 7, .string t, .slice ao m mc, .slice bo n nc] 28)).drew = W at HB1 HG1 ⊢
    have c0 : W.cell? ⟨w.heap.size, 0, none⟩ = some (.int .i64 7) := by rw [Lib.cell_of_heap HG1.out]; rfl
    have c1 : W.cell? ⟨w.heap.size, 1, none⟩ = some (.string t) := by rw [Lib.cell_of_heap HG1.out]; rfl
    have c2 : W.cell? ⟨w.heap.size, 2, none⟩ = some (.slice ao m mc) := by rw [Lib.cell_of_heap HG1.out]; rfl
    cases b1
    · skip
      go_wp2_with fail
      go_ret
      exact ⟨by rw [HE.out]; first | rfl | simp, HB1.out⟩
    cases b2
    · skip
      go_wp2_with fail
      go_ret
      exact ⟨by rw [HE.out]; first | rfl | simp, HB1.out⟩
    go_wp2_with fail
    go_ret
    exact ⟨by rw [HE.out]; first | rfl | simp, HB1.out⟩
  by_cases q8 : k = 8
  · subst q8
    obtain ⟨b1, hb1⟩ : ∃ b, t.toList.isEmpty = b := ⟨_, rfl⟩
    obtain ⟨b2, hb2⟩ : ∃ b, ((m : Int) == 0) = b := ⟨_, rfl⟩
    obtain ⟨b3, hb3⟩ : ∃ b, ((n : Int) == 3) = b := ⟨_, rfl⟩
    have HE : Hid (shapeB num 8 t ns n = (b1 && b2 && b3)) := by
      show _ = _
      rw [HSH.out]
      rw [Bool.eq_iff_iff]; simp [textB, partsB, hb1, ← hb2, ← hb3]; (try omega)
    clear HSH HAR HBN
    have hb1' : (t.toList == []) = b1 := by rw [← isEmpty_eq]; exact hb1
    go_enter Tryd.func41, Tryd.ntmps41
    go_upto_region 1 with fail
    go_region
    have HB1 := Lib.hid HB.out.drew
    have HG1 : Hid ((w.alloc (.cells #[.int .i64 8, .string t, .slice ao m mc, .slice bo n nc] 28)).drew.heap[w.heap.size]? = some (.cells #[.int .i64 8, .string t, .slice ao m mc, .slice bo n nc] 28 (0, 0))) := HG.out
    generalize (w.alloc (.cells #[.int .i64 8, .string t, .slice ao m mc, .slice bo n nc] 28)).drew = W at HB1 HG1 ⊢
    have c0 : W.cell? ⟨w.heap.size, 0, none⟩ = some (.int .i64 8) := by rw [Lib.cell_of_heap HG1.out]; rfl
    have c1 : W.cell? ⟨w.heap.size, 1, none⟩ = some (.string t) := by rw [Lib.cell_of_heap HG1.out]; rfl
    have c2 : W.cell? ⟨w.heap.size, 2, none⟩ = some (.slice ao m mc) := by rw [Lib.cell_of_heap HG1.out]; rfl
    cases b1
    · skip
      go_wp2_with fail
      go_ret
      exact ⟨by rw [HE.out]; first | rfl | simp, HB1.out⟩
    cases b2
    · skip
      go_wp2_with fail
      go_ret
      exact ⟨by rw [HE.out]; first | rfl | simp, HB1.out⟩
    go_wp2_with fail
    go_ret
    exact ⟨by rw [HE.out]; first | rfl | simp, HB1.out⟩
  by_cases q10 : k = 10
  · subst q10
    obtain ⟨b2, hb2⟩ : ∃ b, ((n : Int) == (ar : Int)) = b := ⟨_, rfl⟩
    obtain ⟨b3, hb3⟩ : ∃ b, ((m : Int) == 0) = b := ⟨_, rfl⟩
    by_cases ha0 : 0 < ar
    · have q20 : decide ((0 : Int) < (ar : Int)) = true := decide_eq_true (by omega)
      have hp : partsB 10 t m n = b2 := by rw [← hb2, Bool.eq_iff_iff]; simp [partsB, HAR.out]; omega
      have hz : decide (m = 0) = b3 := by rw [← hb3, Bool.eq_iff_iff]; simp
      have HE : Hid (shapeB num 10 t ns n = (b2 && b3)) := by
        show _ = _
        rw [HSH.out, hp, ← hz]
        simp [textB, HAR.out, ha0]
        cases b2 <;> simp
      clear HSH HAR HBN hp hz
      go_enter Tryd.func41, Tryd.ntmps41
      go_upto_region 1 with fail
      go_region
      have HB1 := Lib.hid HB.out.drew
      have HG1 : Hid ((w.alloc (.cells #[.int .i64 10, .string t, .slice ao m mc, .slice bo n nc] 28)).drew.heap[w.heap.size]? = some (.cells #[.int .i64 10, .string t, .slice ao m mc, .slice bo n nc] 28 (0, 0))) := HG.out
      generalize (w.alloc (.cells #[.int .i64 10, .string t, .slice ao m mc, .slice bo n nc] 28)).drew = W at HB1 HG1 ⊢
      have c0 : W.cell? ⟨w.heap.size, 0, none⟩ = some (.int .i64 10) := by rw [Lib.cell_of_heap HG1.out]; rfl
      have c1 : W.cell? ⟨w.heap.size, 1, none⟩ = some (.string t) := by rw [Lib.cell_of_heap HG1.out]; rfl
      have c2 : W.cell? ⟨w.heap.size, 2, none⟩ = some (.slice ao m mc) := by rw [Lib.cell_of_heap HG1.out]; rfl
      go_wp2_with fail
      refine (HA.out _).mono ?_
      rintro e w1 ⟨rfl, hb⟩
      have HB2 := Lib.hid (HB1.out.trans (hb.mono HB1.out.size))
      have HG2 := row_below hb HG1.out
      have d1 : w1.cell? ⟨w.heap.size, 1, none⟩ = some (.string t) := by rw [Lib.cell_of_heap HG2]; rfl
      clear hb c0 c1 c2 HG1 HG2
      go_wp2_with fail
      refine (HA.out _).mono ?_
      rintro e w2 ⟨rfl, hb⟩
      have HB3 := Lib.hid (HB2.out.trans (hb.mono HB2.out.size))
      clear hb d1
      cases b2
      · skip
        go_wp2_with fail
        go_ret
        exact ⟨by rw [HE.out]; first | rfl | simp, HB3.out⟩
      go_wp2_with fail
      go_ret
      exact ⟨by rw [HE.out]; first | rfl | simp, HB3.out⟩
    · have q20 : decide ((0 : Int) < (ar : Int)) = false := decide_eq_false (by omega)
      have HE : Hid (shapeB num 10 t ns n = false) := by
        show _ = _
        rw [HSH.out]
        simp [textB, HAR.out, ha0]
      clear HSH HAR HBN
      go_enter Tryd.func41, Tryd.ntmps41
      go_upto_region 1 with fail
      go_region
      have HB1 := Lib.hid HB.out.drew
      have HG1 : Hid ((w.alloc (.cells #[.int .i64 10, .string t, .slice ao m mc, .slice bo n nc] 28)).drew.heap[w.heap.size]? = some (.cells #[.int .i64 10, .string t, .slice ao m mc, .slice bo n nc] 28 (0, 0))) := HG.out
      generalize (w.alloc (.cells #[.int .i64 10, .string t, .slice ao m mc, .slice bo n nc] 28)).drew = W at HB1 HG1 ⊢
      have c0 : W.cell? ⟨w.heap.size, 0, none⟩ = some (.int .i64 10) := by rw [Lib.cell_of_heap HG1.out]; rfl
      have c1 : W.cell? ⟨w.heap.size, 1, none⟩ = some (.string t) := by rw [Lib.cell_of_heap HG1.out]; rfl
      have c2 : W.cell? ⟨w.heap.size, 2, none⟩ = some (.slice ao m mc) := by rw [Lib.cell_of_heap HG1.out]; rfl
      go_wp2_with fail
      refine (HA.out _).mono ?_
      rintro e w1 ⟨rfl, hb⟩
      have HB2 := Lib.hid (HB1.out.trans (hb.mono HB1.out.size))
      have HG2 := row_below hb HG1.out
      have d1 : w1.cell? ⟨w.heap.size, 1, none⟩ = some (.string t) := by rw [Lib.cell_of_heap HG2]; rfl
      clear hb c0 c1 c2 HG1 HG2
      go_wp2_with fail
      go_ret
      exact ⟨by rw [HE.out]; first | rfl | simp, HB2.out⟩
  have p1 : (k == 1) = false := by rw [beq_eq_false_iff_ne]; exact q1
  have p2 : (k == 2) = false := by rw [beq_eq_false_iff_ne]; exact q2
  have p3 : (k == 3) = false := by rw [beq_eq_false_iff_ne]; exact q3
  have p4 : (k == 4) = false := by rw [beq_eq_false_iff_ne]; exact q4
  have p5 : (k == 5) = false := by rw [beq_eq_false_iff_ne]; exact q5
  have p6 : (k == 6) = false := by rw [beq_eq_false_iff_ne]; exact q6
  have p7 : (k == 7) = false := by rw [beq_eq_false_iff_ne]; exact q7
  have p8 : (k == 8) = false := by rw [beq_eq_false_iff_ne]; exact q8
  have p9 : (k == 9) = false := by rw [beq_eq_false_iff_ne]; exact q9
  have p10 : (k == 10) = false := by rw [beq_eq_false_iff_ne]; exact q10
  have HE : Hid (shapeB num k t ns n = false) := by show _ = _; rw [HSH.out]; simp [textB, q1, q2, q3, q4, q5, q6, q7, q8, q9, q10]
  clear q1 q2 q3 q4 q5 q6 q7 q8 q9 q10
  go_enter Tryd.func41, Tryd.ntmps41
  go_upto_region 1 with fail
  go_region
  have HB1 := Lib.hid HB.out.drew
  have HG1 : Hid ((w.alloc (.cells #[.int .i64 k, .string t, .slice ao m mc, .slice bo n nc] 28)).drew.heap[w.heap.size]? = some (.cells #[.int .i64 k, .string t, .slice ao m mc, .slice bo n nc] 28 (0, 0))) := HG.out
  generalize (w.alloc (.cells #[.int .i64 k, .string t, .slice ao m mc, .slice bo n nc] 28)).drew = W at HB1 HG1 ⊢
  have c0 : W.cell? ⟨w.heap.size, 0, none⟩ = some (.int .i64 k) := by rw [Lib.cell_of_heap HG1.out]; rfl
  have c1 : W.cell? ⟨w.heap.size, 1, none⟩ = some (.string t) := by rw [Lib.cell_of_heap HG1.out]; rfl
  have c2 : W.cell? ⟨w.heap.size, 2, none⟩ = some (.slice ao m mc) := by rw [Lib.cell_of_heap HG1.out]; rfl
  go_wp2_with fail
  go_ret
  exact ⟨by rw [HE.out]; first | rfl | simp, HB1.out⟩
end Go.Proofs.YtmcgocbkjdacaaaDoor
