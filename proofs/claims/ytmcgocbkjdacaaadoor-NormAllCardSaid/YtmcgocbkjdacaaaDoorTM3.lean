/- Term, of more than five. -/
import Derived.Test.YtmcgocbkjdacaaaDoorTM1
import Derived.Test.YtmcgocbkjdacaaaDoorMK4
namespace Go.Proofs.YtmcgocbkjdacaaaDoor
open Go.RowKit Go.BigM
set_option linter.unusedVariables false
set_option linter.unusedSimpArgs false
set_option maxHeartbeats 8000000 in
set_option maxRecDepth 100000 in
theorem term_lots (hmake : ∀ r : Rw, MkC r) (l : List Rw) (h2 : 2 ≤ l.length) (hQ : 5 < l.length) (ao : Option Addr) (cap : Nat) (w : World) (hR : RsAt w ao l) (hc : Rw.cnts l ≤ 40) : Calls Tryd.prog 12 #[.slice ao l.length cap] w (RetTerm w) := by
  obtain ⟨b0, rfl⟩ : ∃ b0, ao = some b0 := by
    obtain ⟨b, _, _, _, _, _, h, _⟩ := hR.get 0 (by omega)
    exact ⟨b, h⟩
  obtain ⟨Q, hQe⟩ : ∃ Q, Q = 5 := ⟨_, rfl⟩
  have hQl : Q ≤ l.length := by omega
  have hQ5 : Q ≤ 5 := by omega
  have hQ6 : 5 ≤ Q := by omega
  clear hQe
  have hQ2 : 2 ≤ Q := by omega
  have q1 : decide ((l.length : Int) = 0) = false := decide_eq_false (by omega)
  have q2 : decide ((l.length : Int) = 1) = false := decide_eq_false (by omega)
  have q5 : ((l.length : Int) == 0) = false := beq_eq_false_iff_ne.2 (by omega)
  have q6 : ((l.length : Int) == 1) = false := beq_eq_false_iff_ne.2 (by omega)
  have p1 : ¬ l.length = 0 := by omega
  have p2 : ¬ l.length = 1 := by omega
  have HMA := Lib.hid hmake
  have HR := Lib.hid hR
  have HCN := Lib.hid hc
  have hz2 : ((w.alloc (.cells Z4 28)).alloc (.cells #[.int .i64 0] 50)).heap[w.heap.size]? = some (.cells Z4 28 (0, 0)) := (Lib.alloc_old _ _ _ (by simp)).trans (alloc_at w _)
  have hb2 : Below w.heap.size w ((w.alloc (.cells Z4 28)).alloc (.cells #[.int .i64 0] 50)) := ((Below.refl w.heap.size w).alloc (Nat.le_refl _) _).alloc (by simp) _
  have hmk : Mk ((w.alloc (.cells Z4 28)).alloc (.cells #[.int .i64 0] 50)) (w.heap.size + 1) 0 := by
    have h := alloc_at (w.alloc (.cells Z4 28)) (.cells #[.int .i64 0] 50)
    have e : (w.alloc (.cells Z4 28)).heap.size = w.heap.size + 1 := by simp
    rw [e] at h; exact h
  have hs2 : ((w.alloc (.cells Z4 28)).alloc (.cells #[.int .i64 0] 50)).heap.size = w.heap.size + 2 := by simp
  have HB2 := Lib.hid hb2
  have HZ2 := Lib.hid hz2
  have HMK2 := Lib.hid hmk
  clear hmake hR hc hz2 hb2 hmk
  go_enter Tryd.func12, Tryd.ntmps12
  go_upto_region 2 with fail
  generalize (w.alloc (.cells #[.int .i64 0, .string ⟨#[]⟩, .slice none 0 0, .slice none 0 0] 28)).alloc (.cells #[.int .i64 0] 50) = W2 at HB2 HZ2 HMK2 hs2 ⊢
  have hz3 : (W2.alloc (.cells Z4 28)).heap[w.heap.size + 2]? = some (.cells Z4 28 (0, 0)) := by rw [← hs2]; exact alloc_at W2 _
  have HZ3 := Lib.hid hz3
  clear hz3
  go_upto_region 7 with (refine wpList_store_row rfl 28 _ _ rfl (w.heap.size + 2) #[.int .i64 9, .string ⟨#[]⟩, .slice none 0 0, .slice none 0 0] rfl rfl 28 Z4 HZ3.out info28 rfl rfl ?_)
  have he3 : (W2.alloc (.cells #[.int .i64 9, .string ⟨#[]⟩, .slice none 0 0, .slice none 0 0] 28)).heap[w.heap.size + 2]? = some (.cells #[.int .i64 9, .string ⟨#[]⟩, .slice none 0 0, .slice none 0 0] 28 (0, 0)) := by rw [← hs2]; exact alloc_at W2 _
  have hb3 : Below W2.heap.size W2 (W2.alloc (.cells #[.int .i64 9, .string ⟨#[]⟩, .slice none 0 0, .slice none 0 0] 28)) := (Below.refl _ _).alloc (Nat.le_refl _) _
  have hs3 : (W2.alloc (.cells #[.int .i64 9, .string ⟨#[]⟩, .slice none 0 0, .slice none 0 0] 28)).heap.size = w.heap.size + 3 := by simp [hs2]
  generalize W2.alloc (.cells #[.int .i64 9, .string ⟨#[]⟩, .slice none 0 0, .slice none 0 0] 28) = W0 at he3 hb3 hs3 ⊢
  have HB3 : Hid (Below w.heap.size w W0) := HB2.out.trans (hb3.mono HB2.out.size)
  have HZ3b : Hid (W0.heap[w.heap.size]? = some (.cells Z4 28 (0, 0))) := row_below hb3 HZ2.out
  have hmk3 : Mk W0 (w.heap.size + 1) 0 := HMK2.out.below hb3
  obtain ⟨ge, hge⟩ : ∃ ge, ge = w.heap.size + 2 := ⟨_, rfl⟩
  obtain ⟨g, hg⟩ : ∃ g, g = w.heap.size + 1 := ⟨_, rfl⟩
  rw [← hge] at he3
  rw [← hg] at hmk3
  simp only [← hge, ← hg]
  have HE3 : Hid (EB W0 ge 9 ⟨#[]⟩ (.slice none 0 0) (.slice none 0 0)) := he3
  have hgeb : ge < W0.heap.size := by omega
  have hgb : g < W0.heap.size := by omega
  have hne : ge ≠ g := by omega
  have hlg : w.heap.size ≤ g := by omega
  have hlge : w.heap.size ≤ ge := by omega
  have hwg : w.heap.size ≠ g := by omega
  have hwge : w.heap.size ≠ ge := by omega
  have hwg1 : w.heap.size < g := by omega
  have hwW : w.heap.size < W0.heap.size := by omega
  have H0 : Hid (LT W0 g ge Q (.int .i64 1) W0) := ⟨1, 0, .slice none 0 0, by omega, rfl, rfl, HE3.out, by rw [nms_self]; exact OwnN.nil _ _, hmk3, But2.refl _ _ _ _⟩
  clear he3 hb3 hs3 hmk3 hge hg HZ3 HB2 HZ2 HMK2 hs2
  go_wp2_with fail
  go_loopw [5] (fun iv wr => LT W0 g ge Q iv wr) (fun iv _ => Q - (intOf iv).toNat)
  case atStart => exact H0.out
  case round =>
    clear H0
    obtain ⟨i, j, nv, hi, hij, rfl, heb, hn, hmk, hbut⟩ := hrel
    have hs0 := hbut.size
    obtain ⟨no, nc, rfl⟩ : ∃ no nc, nv = .slice no j nc := by
      obtain ⟨no, nc, e⟩ := own_form hn
      exact ⟨no, nc, by rw [e, nms_len]; rfl⟩
    have HIJ := Lib.hid hij
    have hij1 : j + 1 ≤ i := by omega
    have hij2 : i ≤ j + 1 := by omega
    clear hij
    by_cases hiq : i < Q
    · have HNM := Lib.hid (name_any g j wr.drew (hmk.below (Below.refl _ _).drew) (by omega))
      have HS0 : Hid (But2 W0.heap.size g ge wr wr.drew) := But2.drew2 _ _ _ _
      have c2 := (EB.cell _ _ _ _ _ _ heb).2.2.1
      have HEB := Lib.hid heb
      have HOW := Lib.hid hn
      have HBT := Lib.hid hbut
      have hln : (nms 0 j).length ≤ 100000 := by rw [nms_len]; omega
      clear heb hn hmk hbut
      have q3 : decide ((i : Int) < (l.length : Int)) = true := decide_eq_true (by omega)
      have q4 : decide ((i : Int) < 5) = true := decide_eq_true (by omega)
      go_upto_region 10 with fail
      refine wp_region_noPanic ?_
      refine wp_region_held_drew (S := But2 W0.heap.size g ge wr) (by kernel_rfl) (But2.drew2 _ _ _ _) (fun hHeld => ?_)
      refine wpAnyH_take (i := 0) (v := Value.pointer (some ⟨ge, 2, none⟩)) rfl (by kernel_rfl) (by kernel_rfl) (by kernel_rfl) (fun _ _ _ h => h) (Or.inl ⟨rfl, fun w' hw' => ?_⟩) hHeld ?_
      · go_simp
      simp only [List.getElem_toArray, List.getElem_cons_succ, List.getElem_cons_zero, Act.put, List.setIfInBounds_toArray, List.set_cons_zero, List.set_cons_succ]
      refine wpAnyH_take (i := 2) (v := Value.pointer (some ⟨g, 0, none⟩)) rfl (by kernel_rfl) (by kernel_rfl) (by kernel_rfl) (fun _ _ _ h => h) (Or.inl ⟨rfl, fun w' hw' => ?_⟩) hHeld ?_
      · go_simp
      simp only [List.getElem_toArray, List.getElem_cons_succ, List.getElem_cons_zero, Act.put, List.setIfInBounds_toArray, List.set_cons_zero, List.set_cons_succ]
      refine wpAnyH_ready (rs := [1, 3]) (by kernel_rfl) (by simp) ?_
      refine (AllReadyH.cons rfl (fun K hK => ?_) (AllReadyH.cons rfl (fun K hK => ?_) AllReadyH.nil))
      · skip
        go_simp
        refine hK.out _ _ HS0.out (fun hHeld => ?_)
        clear hK K
        try simp only [List.getElem_toArray, List.getElem_cons_succ, List.getElem_cons_zero, Act.put, List.setIfInBounds_toArray, List.set_cons_zero, List.set_cons_succ]
        refine wpAnyH_ready (rs := [3]) (by kernel_rfl) (by simp) ?_
        refine (AllReadyH.cons rfl (fun K hK => ?_) AllReadyH.nil)
        go_simp
        refine HNM.out.mono ?_
        rintro e w7 ⟨rfl, hmk7, hb7⟩
        have hb7 : But wr.heap.size g wr w7 := ((But.refl wr.heap.size g wr).drew).trans hb7
        obtain ⟨s, hs⟩ : ∃ s, s = nm (j + 1) := ⟨_, rfl⟩
        rw [← hs]
        obtain ⟨S7, c7, S8, c8, hx8, hcx, hB8, hc9⟩ := LT.step hiq HIJ.out HEB.out HOW.out HBT.out hgb hgeb hne hmk7 hb7 s hs
        have HS7 := Lib.hid S7
        have HS8 := Lib.hid S8
        have HX := Lib.hid hx8
        have HC := Lib.hid hc9
        clear hmk7 hb7 hs S7 S8 hx8 hc9
        refine hK.out _ _ HS7.out (fun hHeld => ?_)
        clear hK K
        try simp only [List.getElem_toArray, List.getElem_cons_succ, List.getElem_cons_zero, Act.put, List.setIfInBounds_toArray, List.set_cons_zero, List.set_cons_succ]
        refine wpAnyH_ready (rs := [4]) (by kernel_rfl) (by simp) ?_
        refine (AllReadyH.cons rfl (fun K hK => ?_) AllReadyH.nil)
        go_simp
        refine hK.out _ _ HS8.out (fun hHeld => ?_)
        clear hK K
        try simp only [List.getElem_toArray, List.getElem_cons_succ, List.getElem_cons_zero, Act.put, List.setIfInBounds_toArray, List.set_cons_zero, List.set_cons_succ]
        refine wpAnyH_ready (rs := [5]) (by kernel_rfl) (by simp) ?_
        refine (AllReadyH.cons rfl (fun K hK => ?_) AllReadyH.nil)
        refine wp_appN1 (Operand.tmp 33) (Operand.tmp 36) rfl W0.heap.size (.slice no j nc) _ rfl HX.out _ rfl s hcx hln hB8 ?_
        intro v' w9 hown9 hg9
        obtain ⟨no', nc', rfl⟩ := own_form hown9
        have hl9 : (nms 0 j ++ [s]).length = j + 1 := by rw [List.length_append, nms_len]; rfl
        rw [hl9] at hown9 ⊢
        obtain ⟨S9, e9, f9, S10, HREL⟩ := HC.out _ _ _ hown9 hg9
        have HS9 := Lib.hid S9
        have HS10 := Lib.hid S10
        have HR9 := Lib.hid HREL
        clear hown9 hg9 S9 S10 HREL hl9
        refine hK.out _ _ HS9.out (fun hHeld => ?_)
        clear hK K
        try simp only [List.getElem_toArray, List.getElem_cons_succ, List.getElem_cons_zero, Act.put, List.setIfInBounds_toArray, List.set_cons_zero, List.set_cons_succ]
        refine wpAnyH_take (i := 6) (v := Value.pointer (some ⟨ge, 2, none⟩)) rfl (by kernel_rfl) (by kernel_rfl) (by kernel_rfl) (fun _ _ _ h => h) (Or.inl ⟨rfl, fun w' hw' => ?_⟩) hHeld ?_
        · go_simp
        simp only [List.getElem_toArray, List.getElem_cons_succ, List.getElem_cons_zero, Act.put, List.setIfInBounds_toArray, List.set_cons_zero, List.set_cons_succ]
        refine wpAnyH_ready (rs := [7]) (by kernel_rfl) (by simp) ?_
        refine (AllReadyH.cons rfl (fun K hK => ?_) AllReadyH.nil)
        go_simp
        refine hK.out _ _ HS10.out (fun hHeld => ?_)
        clear hK K
        try simp only [List.getElem_toArray, List.getElem_cons_succ, List.getElem_cons_zero, Act.put, List.setIfInBounds_toArray, List.set_cons_zero, List.set_cons_succ]
        refine wpAnyH_done (by kernel_rfl) ?_ _
        refine NoPanic.normal ?_
        clear hHeld
        go_wp2_with fail
        go_roundw
        case rel => exact HR9.out
        case measure => simp [intOf]; omega
      · skip
        go_simp
        refine HNM.out.mono ?_
        rintro e w7 ⟨rfl, hmk7, hb7⟩
        have hb7 : But wr.heap.size g wr w7 := ((But.refl wr.heap.size g wr).drew).trans hb7
        obtain ⟨s, hs⟩ : ∃ s, s = nm (j + 1) := ⟨_, rfl⟩
        rw [← hs]
        obtain ⟨S7, c7, S8, c8, hx8, hcx, hB8, hc9⟩ := LT.step hiq HIJ.out HEB.out HOW.out HBT.out hgb hgeb hne hmk7 hb7 s hs
        have HS7 := Lib.hid S7
        have HS8 := Lib.hid S8
        have HX := Lib.hid hx8
        have HC := Lib.hid hc9
        clear hmk7 hb7 hs S7 S8 hx8 hc9
        refine hK.out _ _ HS7.out (fun hHeld => ?_)
        clear hK K
        try simp only [List.getElem_toArray, List.getElem_cons_succ, List.getElem_cons_zero, Act.put, List.setIfInBounds_toArray, List.set_cons_zero, List.set_cons_succ]
        refine wpAnyH_ready (rs := [1, 4]) (by kernel_rfl) (by simp) ?_
        refine (AllReadyH.cons rfl (fun K hK => ?_) (AllReadyH.cons rfl (fun K hK => ?_) AllReadyH.nil))
        · skip
          go_simp
          refine hK.out _ _ HS7.out (fun hHeld => ?_)
          clear hK K
          try simp only [List.getElem_toArray, List.getElem_cons_succ, List.getElem_cons_zero, Act.put, List.setIfInBounds_toArray, List.set_cons_zero, List.set_cons_succ]
          refine wpAnyH_ready (rs := [4]) (by kernel_rfl) (by simp) ?_
          refine (AllReadyH.cons rfl (fun K hK => ?_) AllReadyH.nil)
          go_simp
          refine hK.out _ _ HS8.out (fun hHeld => ?_)
          clear hK K
          try simp only [List.getElem_toArray, List.getElem_cons_succ, List.getElem_cons_zero, Act.put, List.setIfInBounds_toArray, List.set_cons_zero, List.set_cons_succ]
          refine wpAnyH_ready (rs := [5]) (by kernel_rfl) (by simp) ?_
          refine (AllReadyH.cons rfl (fun K hK => ?_) AllReadyH.nil)
          refine wp_appN1 (Operand.tmp 33) (Operand.tmp 36) rfl W0.heap.size (.slice no j nc) _ rfl HX.out _ rfl s hcx hln hB8 ?_
          intro v' w9 hown9 hg9
          obtain ⟨no', nc', rfl⟩ := own_form hown9
          have hl9 : (nms 0 j ++ [s]).length = j + 1 := by rw [List.length_append, nms_len]; rfl
          rw [hl9] at hown9 ⊢
          obtain ⟨S9, e9, f9, S10, HREL⟩ := HC.out _ _ _ hown9 hg9
          have HS9 := Lib.hid S9
          have HS10 := Lib.hid S10
          have HR9 := Lib.hid HREL
          clear hown9 hg9 S9 S10 HREL hl9
          refine hK.out _ _ HS9.out (fun hHeld => ?_)
          clear hK K
          try simp only [List.getElem_toArray, List.getElem_cons_succ, List.getElem_cons_zero, Act.put, List.setIfInBounds_toArray, List.set_cons_zero, List.set_cons_succ]
          refine wpAnyH_take (i := 6) (v := Value.pointer (some ⟨ge, 2, none⟩)) rfl (by kernel_rfl) (by kernel_rfl) (by kernel_rfl) (fun _ _ _ h => h) (Or.inl ⟨rfl, fun w' hw' => ?_⟩) hHeld ?_
          · go_simp
          simp only [List.getElem_toArray, List.getElem_cons_succ, List.getElem_cons_zero, Act.put, List.setIfInBounds_toArray, List.set_cons_zero, List.set_cons_succ]
          refine wpAnyH_ready (rs := [7]) (by kernel_rfl) (by simp) ?_
          refine (AllReadyH.cons rfl (fun K hK => ?_) AllReadyH.nil)
          go_simp
          refine hK.out _ _ HS10.out (fun hHeld => ?_)
          clear hK K
          try simp only [List.getElem_toArray, List.getElem_cons_succ, List.getElem_cons_zero, Act.put, List.setIfInBounds_toArray, List.set_cons_zero, List.set_cons_succ]
          refine wpAnyH_done (by kernel_rfl) ?_ _
          refine NoPanic.normal ?_
          clear hHeld
          go_wp2_with fail
          go_roundw
          case rel => exact HR9.out
          case measure => simp [intOf]; omega
        · skip
          go_simp
          refine hK.out _ _ HS8.out (fun hHeld => ?_)
          clear hK K
          try simp only [List.getElem_toArray, List.getElem_cons_succ, List.getElem_cons_zero, Act.put, List.setIfInBounds_toArray, List.set_cons_zero, List.set_cons_succ]
          refine wpAnyH_ready (rs := [1]) (by kernel_rfl) (by simp) ?_
          refine (AllReadyH.cons rfl (fun K hK => ?_) AllReadyH.nil)
          go_simp
          refine hK.out _ _ HS8.out (fun hHeld => ?_)
          clear hK K
          try simp only [List.getElem_toArray, List.getElem_cons_succ, List.getElem_cons_zero, Act.put, List.setIfInBounds_toArray, List.set_cons_zero, List.set_cons_succ]
          refine wpAnyH_ready (rs := [5]) (by kernel_rfl) (by simp) ?_
          refine (AllReadyH.cons rfl (fun K hK => ?_) AllReadyH.nil)
          refine wp_appN1 (Operand.tmp 33) (Operand.tmp 36) rfl W0.heap.size (.slice no j nc) _ rfl HX.out _ rfl s hcx hln hB8 ?_
          intro v' w9 hown9 hg9
          obtain ⟨no', nc', rfl⟩ := own_form hown9
          have hl9 : (nms 0 j ++ [s]).length = j + 1 := by rw [List.length_append, nms_len]; rfl
          rw [hl9] at hown9 ⊢
          obtain ⟨S9, e9, f9, S10, HREL⟩ := HC.out _ _ _ hown9 hg9
          have HS9 := Lib.hid S9
          have HS10 := Lib.hid S10
          have HR9 := Lib.hid HREL
          clear hown9 hg9 S9 S10 HREL hl9
          refine hK.out _ _ HS9.out (fun hHeld => ?_)
          clear hK K
          try simp only [List.getElem_toArray, List.getElem_cons_succ, List.getElem_cons_zero, Act.put, List.setIfInBounds_toArray, List.set_cons_zero, List.set_cons_succ]
          refine wpAnyH_take (i := 6) (v := Value.pointer (some ⟨ge, 2, none⟩)) rfl (by kernel_rfl) (by kernel_rfl) (by kernel_rfl) (fun _ _ _ h => h) (Or.inl ⟨rfl, fun w' hw' => ?_⟩) hHeld ?_
          · go_simp
          simp only [List.getElem_toArray, List.getElem_cons_succ, List.getElem_cons_zero, Act.put, List.setIfInBounds_toArray, List.set_cons_zero, List.set_cons_succ]
          refine wpAnyH_ready (rs := [7]) (by kernel_rfl) (by simp) ?_
          refine (AllReadyH.cons rfl (fun K hK => ?_) AllReadyH.nil)
          go_simp
          refine hK.out _ _ HS10.out (fun hHeld => ?_)
          clear hK K
          try simp only [List.getElem_toArray, List.getElem_cons_succ, List.getElem_cons_zero, Act.put, List.setIfInBounds_toArray, List.set_cons_zero, List.set_cons_succ]
          refine wpAnyH_done (by kernel_rfl) ?_ _
          refine NoPanic.normal ?_
          clear hHeld
          go_wp2_with fail
          go_roundw
          case rel => exact HR9.out
          case measure => simp [intOf]; omega
    · obtain rfl : Q = i := by omega
      have q3 : decide ((Q : Int) < (l.length : Int)) = true := decide_eq_true (by omega)
      have q4 : decide ((Q : Int) < 5) = false := decide_eq_false (by omega)
      obtain ⟨W1, rfl⟩ : ∃ W1, W1 = wr := ⟨_, rfl⟩
      obtain ⟨m0, rfl⟩ : ∃ m0, m0 = j := ⟨_, rfl⟩
      have hgb1 : g < W1.heap.size := by omega
      have hgeb1 : ge < W1.heap.size := by omega
      have hlow1 : w.heap.size ≤ W1.heap.size := by omega
      have hwge1 : w.heap.size < ge := by omega
      have hW01 : W0.heap.size ≤ W1.heap.size := hs0
      have hbb : Below w.heap.size w W1 := HB3.out.trans (hbut.toBelow (by omega) hlg hlge)
      have HBB := Lib.hid hbb
      have HE1 := Lib.hid heb
      have HN1 := Lib.hid hn
      have HMQ : Hid (m0 + 1 = Q) := HIJ.out
      have HZB : Hid (W1.heap[w.heap.size]? = some (.cells Z4 28 (0, 0))) := (hbut.block _ hwW hwg hwge).trans HZ3b.out
      have P4 : Hid (Pre w W1 g m0 (nms 0 m0) (.slice no m0 nc)) := ⟨hbb, hlg, hmk, hn.at.mono (fun x hx => by have : W0.heap.size ≤ x := hx.1; show x ≠ g; omega), Good.nms (by omega), by rw [nms_len]; omega⟩
      have H1 : Hid (LB W1 g ge Q m0 (ord l Q) (nms 0 m0) (.slice no m0 nc) (.int .i64 1) W1) := ⟨1, 0, rfl, by omega, rfl, 0, m0, [], _, Nat.zero_le _, rfl, OwnA.nil _ _, heb, MadeL.nil _ _, hmk, rfl, by simp [Et.sizes], by omega, But2.refl _ _ _ _⟩
      clear heb hn hmk hbut hbb HIJ
      go_wp2_with fail
      clear q3 q4
      go_loopw [6] (fun iv wr => LB W1 g ge Q m0 (ord l Q) (nms 0 m0) (.slice no m0 nc) iv wr) (fun iv _ => Q - (intOf iv).toNat)
      case atStart => exact H1.out
      case round =>
        clear H1
        obtain ⟨i, j, hij, hi5, rfl, j5, m', l5, av, hj5, hjv, hown, heb, hM, hmk, hl5, hsz, hmm, hbut⟩ := hrel
        obtain rfl : j = j5 := by injection hjv with _ h; omega
        have hs1 := hbut.size
        obtain ⟨ao5, ac5, rfl⟩ : ∃ ao5 ac5, av = .slice ao5 j ac5 := by
          obtain ⟨xs, ho, _⟩ := hown
          rw [hl5] at ho
          exact own_form ho
        have HIJ := Lib.hid hij
        have hij1 : j + 1 ≤ i := by omega
        have hij2 : i ≤ j + 1 := by omega
        have HBr : Hid (Below w.heap.size w wr) := HBB.out.trans (hbut.toBelow hlow1 hlg hlge)
        have HPr : Hid (Pre w wr g m' (nms 0 m0) (.slice no m0 nc)) := P4.out.move2 hbut hmk hM.le ⟨_, _, HE1.out⟩ hlge
        have c3 := (EB.cell _ _ _ _ _ _ heb).2.2.2
        have c2 := (EB.cell _ _ _ _ _ _ heb).2.2.1
        have HEB := Lib.hid heb
        have HOW := Lib.hid hown
        have HMM := Lib.hid hM
        have HMK := Lib.hid hmk
        have HBT := Lib.hid hbut
        have hi1 : j + 1 ≤ 1000000000 := by omega
        clear hij hjv heb hown hM hmk hbut
        by_cases hiq : i < Q
        · obtain ⟨b, k', n', po', pl', pc', hbe, hlj, c0, c1, c2', i1, i2, hpl⟩ := HR.out.get i (by omega)
          obtain rfl : b0 = b := by injection hbe
          have hpc : pcn (ord l Q) j = (Rw.mk k' n' pl').cnt := pcn_of (by rw [ord_get l Q j (by omega) (by omega), show j + 1 = i from HIJ.out, List.getElem?_eq_getElem (by omega), hlj])
          have hjQ : j < Q := by omega
          have hcl := cnts_take_le (ord l Q) (j + 1)
          have hct := pcn_take (ord l Q) j
          have hoc := ord_cnts l Q
          have hcn := HCN.out
          have HP := Lib.hid (HMA.out (.mk k' n' pl') w wr.drew g m' (nms 0 m0) (.slice no m0 nc) (HPr.out.below' (Below.refl _ _).drew) (by omega) po' pc' hpl i1 i2)
          simp only [Rw.num, Rw.at_, Rw.parts] at HP
          have HD : Hid (∀ w', But2 W1.heap.size g ge wr w' → w'.cell? (b0.add (i * 3)) = some (.int .i64 k') ∧ w'.cell? ⟨(b0.add (i * 3)).block, (b0.add (i * 3)).off + 1, none⟩ = some (.int .i64 n') ∧ w'.cell? ⟨(b0.add (i * 3)).block, (b0.add (i * 3)).off + 2, none⟩ = some (.slice po' pl'.length pc')) := fun w' hw' => ⟨cell_below (HBr.out.trans (hw'.toBelow hlow1 hlg hlge)) c0, cell_below (HBr.out.trans (hw'.toBelow hlow1 hlg hlge)) c1, cell_below (HBr.out.trans (hw'.toBelow hlow1 hlg hlge)) c2'⟩
          have HS0 : Hid (But2 W1.heap.size g ge wr wr.drew) := But2.drew2 _ _ _ _
          clear hcl hct hoc hcn c0 c1 c2' i1 i2 hpl hlj
          have q3 : decide ((i : Int) < (l.length : Int)) = true := decide_eq_true (by omega)
          have q4 : decide ((i : Int) < 5) = true := decide_eq_true (by omega)
          go_upto_region 14 with fail
          refine wp_region_noPanic ?_
          refine wp_region_held_drew (S := But2 W1.heap.size g ge wr) (by kernel_rfl) (But2.drew2 _ _ _ _) (fun hHeld => ?_)
          refine wpAnyH_take (i := 0) (v := Value.pointer (some ⟨ge, 3, none⟩)) rfl (by kernel_rfl) (by kernel_rfl) (by kernel_rfl) (fun _ _ _ h => h) (Or.inl ⟨rfl, fun w' hw' => ?_⟩) hHeld ?_
          · go_simp
          simp only [List.getElem_toArray, List.getElem_cons_succ, List.getElem_cons_zero, Act.put, List.setIfInBounds_toArray, List.set_cons_zero, List.set_cons_succ]
          refine wpAnyH_take (i := 2) (v := Value.pointer (some ⟨g, 0, none⟩)) rfl (by kernel_rfl) (by kernel_rfl) (by kernel_rfl) (fun _ _ _ h => h) (Or.inl ⟨rfl, fun w' hw' => ?_⟩) hHeld ?_
          · go_simp
          simp only [List.getElem_toArray, List.getElem_cons_succ, List.getElem_cons_zero, Act.put, List.setIfInBounds_toArray, List.set_cons_zero, List.set_cons_succ]
          refine wpAnyH_take (i := 3) (v := Value.slice (some b0) l.length cap) rfl (by kernel_rfl) (by kernel_rfl) (by kernel_rfl) (fun _ _ _ h => h) (Or.inl ⟨rfl, fun w' hw' => ?_⟩) hHeld ?_
          · go_simp
          simp only [List.getElem_toArray, List.getElem_cons_succ, List.getElem_cons_zero, Act.put, List.setIfInBounds_toArray, List.set_cons_zero, List.set_cons_succ]
          refine wpAnyH_take (i := 4) (v := Value.int .i64 (i : Int)) rfl (by kernel_rfl) (by kernel_rfl) (by kernel_rfl) (fun _ _ _ h => h) (Or.inl ⟨rfl, fun w' hw' => ?_⟩) hHeld ?_
          · go_simp
          simp only [List.getElem_toArray, List.getElem_cons_succ, List.getElem_cons_zero, Act.put, List.setIfInBounds_toArray, List.set_cons_zero, List.set_cons_succ]
          refine wpAnyH_take (i := 5) (v := Value.pointer (some (b0.add (i * 3)))) rfl (by kernel_rfl) (by kernel_rfl) (by kernel_rfl) (fun _ _ _ h => h) (Or.inl ⟨rfl, fun w' hw' => ?_⟩) hHeld ?_
          · go_simp
          simp only [List.getElem_toArray, List.getElem_cons_succ, List.getElem_cons_zero, Act.put, List.setIfInBounds_toArray, List.set_cons_zero, List.set_cons_succ]
          refine wpAnyH_take (i := 6) (v := Value.agg #[.int .i64 k', .int .i64 n', .slice po' pl'.length pc']) rfl (by kernel_rfl) (by kernel_rfl) (by kernel_rfl) (fun _ _ _ h => h) (Or.inl ⟨rfl, fun w' hw' => ?_⟩) hHeld ?_
          · obtain ⟨d0, d1, d2⟩ := HD.out w' hw'; go_simp
          simp only [List.getElem_toArray, List.getElem_cons_succ, List.getElem_cons_zero, Act.put, List.setIfInBounds_toArray, List.set_cons_zero, List.set_cons_succ]
          refine wpAnyH_take (i := 7) (v := Value.pointer (some ⟨ge, 2, none⟩)) rfl (by kernel_rfl) (by kernel_rfl) (by kernel_rfl) (fun _ _ _ h => h) (Or.inl ⟨rfl, fun w' hw' => ?_⟩) hHeld ?_
          · go_simp
          simp only [List.getElem_toArray, List.getElem_cons_succ, List.getElem_cons_zero, Act.put, List.setIfInBounds_toArray, List.set_cons_zero, List.set_cons_succ]
          refine wpAnyH_ready (rs := [1, 8]) (by kernel_rfl) (by simp) ?_
          refine (AllReadyH.cons rfl (fun K hK => ?_) (AllReadyH.cons rfl (fun K hK => ?_) AllReadyH.nil))
          · skip
            go_simp
            refine hK.out _ _ HS0.out (fun hHeld => ?_)
            clear hK K
            try simp only [List.getElem_toArray, List.getElem_cons_succ, List.getElem_cons_zero, Act.put, List.setIfInBounds_toArray, List.set_cons_zero, List.set_cons_succ]
            refine wpAnyH_ready (rs := [8]) (by kernel_rfl) (by simp) ?_
            refine (AllReadyH.cons rfl (fun K hK => ?_) AllReadyH.nil)
            go_simp
            refine hK.out _ _ HS0.out (fun hHeld => ?_)
            clear hK K
            try simp only [List.getElem_toArray, List.getElem_cons_succ, List.getElem_cons_zero, Act.put, List.setIfInBounds_toArray, List.set_cons_zero, List.set_cons_succ]
            refine wpAnyH_ready (rs := [9]) (by kernel_rfl) (by simp) ?_
            refine (AllReadyH.cons rfl (fun K hK => ?_) AllReadyH.nil)
            go_simp
            refine HP.out.mono ?_
            rintro e w7 ⟨cs, t, m'', rfl, hat, hMt, htz, hm'', hmk7, hb7⟩
            have hb7 : But wr.heap.size g wr w7 := ((But.refl wr.heap.size g wr).drew).trans hb7
            obtain ⟨k5, t5, nv5, av5, rfl, o1, o2⟩ := EAt_form hat
            obtain ⟨S7, c7, S8, c8, xs, hx8, hB8, hc9⟩ := LA.step (i := j) (q := Q) (pl := ord l Q) hjQ HOW.out HEB.out HMM.out HMK.out hl5 (by omega) hsz hmm HBT.out hgb1 hgeb1 hne (Et.At.mono (fun _ h => h) _ _ hat) rfl hMt (by rw [hpc]; omega) (by rw [hpc]; omega) hmk7 hb7
            have HS7 := Lib.hid S7
            have HS8 := Lib.hid S8
            have HX := Lib.hid hx8
            have HB8 := Lib.hid hB8
            have HC := Lib.hid hc9
            have HONE : Hid (nv5.oneCell' = true ∧ av5.oneCell' = true) := ⟨o1, o2⟩
            have HBW := Lib.hid hb7.size
            clear hat hMt htz hm'' hmk7 hb7 S7 S8 hx8 hB8 hc9 o1 o2
            refine hK.out _ _ HS7.out (fun hHeld => ?_)
            clear hK K
            try simp only [List.getElem_toArray, List.getElem_cons_succ, List.getElem_cons_zero, Act.put, List.setIfInBounds_toArray, List.set_cons_zero, List.set_cons_succ]
            refine wpAnyH_ready (rs := [10]) (by kernel_rfl) (by simp) ?_
            refine (AllReadyH.cons rfl (fun K hK => ?_) AllReadyH.nil)
            go_simp
            refine hK.out _ _ HS8.out (fun hHeld => ?_)
            clear hK K
            try simp only [List.getElem_toArray, List.getElem_cons_succ, List.getElem_cons_zero, Act.put, List.setIfInBounds_toArray, List.set_cons_zero, List.set_cons_succ]
            refine wpAnyH_ready (rs := [11]) (by kernel_rfl) (by simp) ?_
            refine (AllReadyH.cons rfl (fun K hK => ?_) AllReadyH.nil)
            refine wp_app (Operand.tmp 50) (Operand.tmp 59) rfl W1.heap.size (.slice ao5 j ac5) j xs rfl HX.out _ 1 rfl #[.int .i64 k5, .string t5, nv5, av5].toList rfl (row_cells _ _) (one_cells HONE.out) hi1 HB8.out ?_
            intro v' w9 hown9 hg9 hv9
            obtain ⟨ao', ac', rfl⟩ := own_form hown9
            obtain ⟨S9, e9, f9, S10, HREL⟩ := HC.out _ _ _ hown9 hg9 hv9
            have HS9 := Lib.hid S9
            have HS10 := Lib.hid S10
            have HR9 := Lib.hid HREL
            clear hown9 hg9 hv9 S9 S10 HREL
            refine hK.out _ _ HS9.out (fun hHeld => ?_)
            clear hK K
            try simp only [List.getElem_toArray, List.getElem_cons_succ, List.getElem_cons_zero, Act.put, List.setIfInBounds_toArray, List.set_cons_zero, List.set_cons_succ]
            refine wpAnyH_take (i := 12) (v := Value.pointer (some ⟨ge, 3, none⟩)) rfl (by kernel_rfl) (by kernel_rfl) (by kernel_rfl) (fun _ _ _ h => h) (Or.inl ⟨rfl, fun w' hw' => ?_⟩) hHeld ?_
            · go_simp
            simp only [List.getElem_toArray, List.getElem_cons_succ, List.getElem_cons_zero, Act.put, List.setIfInBounds_toArray, List.set_cons_zero, List.set_cons_succ]
            refine wpAnyH_ready (rs := [13]) (by kernel_rfl) (by simp) ?_
            refine (AllReadyH.cons rfl (fun K hK => ?_) AllReadyH.nil)
            go_simp
            refine hK.out _ _ HS10.out (fun hHeld => ?_)
            clear hK K
            try simp only [List.getElem_toArray, List.getElem_cons_succ, List.getElem_cons_zero, Act.put, List.setIfInBounds_toArray, List.set_cons_zero, List.set_cons_succ]
            refine wpAnyH_done (by kernel_rfl) ?_ _
            refine NoPanic.normal ?_
            clear hHeld
            go_wp2_with fail
            go_roundw
            case rel => exact LB.next HR9.out HIJ.out hiq
            case measure => simp [intOf]; omega
          · skip
            go_simp
            refine hK.out _ _ HS0.out (fun hHeld => ?_)
            clear hK K
            try simp only [List.getElem_toArray, List.getElem_cons_succ, List.getElem_cons_zero, Act.put, List.setIfInBounds_toArray, List.set_cons_zero, List.set_cons_succ]
            refine wpAnyH_ready (rs := [1, 9]) (by kernel_rfl) (by simp) ?_
            refine (AllReadyH.cons rfl (fun K hK => ?_) (AllReadyH.cons rfl (fun K hK => ?_) AllReadyH.nil))
            · skip
              go_simp
              refine hK.out _ _ HS0.out (fun hHeld => ?_)
              clear hK K
              try simp only [List.getElem_toArray, List.getElem_cons_succ, List.getElem_cons_zero, Act.put, List.setIfInBounds_toArray, List.set_cons_zero, List.set_cons_succ]
              refine wpAnyH_ready (rs := [9]) (by kernel_rfl) (by simp) ?_
              refine (AllReadyH.cons rfl (fun K hK => ?_) AllReadyH.nil)
              go_simp
              refine HP.out.mono ?_
              rintro e w7 ⟨cs, t, m'', rfl, hat, hMt, htz, hm'', hmk7, hb7⟩
              have hb7 : But wr.heap.size g wr w7 := ((But.refl wr.heap.size g wr).drew).trans hb7
              obtain ⟨k5, t5, nv5, av5, rfl, o1, o2⟩ := EAt_form hat
              obtain ⟨S7, c7, S8, c8, xs, hx8, hB8, hc9⟩ := LA.step (i := j) (q := Q) (pl := ord l Q) hjQ HOW.out HEB.out HMM.out HMK.out hl5 (by omega) hsz hmm HBT.out hgb1 hgeb1 hne (Et.At.mono (fun _ h => h) _ _ hat) rfl hMt (by rw [hpc]; omega) (by rw [hpc]; omega) hmk7 hb7
              have HS7 := Lib.hid S7
              have HS8 := Lib.hid S8
              have HX := Lib.hid hx8
              have HB8 := Lib.hid hB8
              have HC := Lib.hid hc9
              have HONE : Hid (nv5.oneCell' = true ∧ av5.oneCell' = true) := ⟨o1, o2⟩
              have HBW := Lib.hid hb7.size
              clear hat hMt htz hm'' hmk7 hb7 S7 S8 hx8 hB8 hc9 o1 o2
              refine hK.out _ _ HS7.out (fun hHeld => ?_)
              clear hK K
              try simp only [List.getElem_toArray, List.getElem_cons_succ, List.getElem_cons_zero, Act.put, List.setIfInBounds_toArray, List.set_cons_zero, List.set_cons_succ]
              refine wpAnyH_ready (rs := [10]) (by kernel_rfl) (by simp) ?_
              refine (AllReadyH.cons rfl (fun K hK => ?_) AllReadyH.nil)
              go_simp
              refine hK.out _ _ HS8.out (fun hHeld => ?_)
              clear hK K
              try simp only [List.getElem_toArray, List.getElem_cons_succ, List.getElem_cons_zero, Act.put, List.setIfInBounds_toArray, List.set_cons_zero, List.set_cons_succ]
              refine wpAnyH_ready (rs := [11]) (by kernel_rfl) (by simp) ?_
              refine (AllReadyH.cons rfl (fun K hK => ?_) AllReadyH.nil)
              refine wp_app (Operand.tmp 50) (Operand.tmp 59) rfl W1.heap.size (.slice ao5 j ac5) j xs rfl HX.out _ 1 rfl #[.int .i64 k5, .string t5, nv5, av5].toList rfl (row_cells _ _) (one_cells HONE.out) hi1 HB8.out ?_
              intro v' w9 hown9 hg9 hv9
              obtain ⟨ao', ac', rfl⟩ := own_form hown9
              obtain ⟨S9, e9, f9, S10, HREL⟩ := HC.out _ _ _ hown9 hg9 hv9
              have HS9 := Lib.hid S9
              have HS10 := Lib.hid S10
              have HR9 := Lib.hid HREL
              clear hown9 hg9 hv9 S9 S10 HREL
              refine hK.out _ _ HS9.out (fun hHeld => ?_)
              clear hK K
              try simp only [List.getElem_toArray, List.getElem_cons_succ, List.getElem_cons_zero, Act.put, List.setIfInBounds_toArray, List.set_cons_zero, List.set_cons_succ]
              refine wpAnyH_take (i := 12) (v := Value.pointer (some ⟨ge, 3, none⟩)) rfl (by kernel_rfl) (by kernel_rfl) (by kernel_rfl) (fun _ _ _ h => h) (Or.inl ⟨rfl, fun w' hw' => ?_⟩) hHeld ?_
              · go_simp
              simp only [List.getElem_toArray, List.getElem_cons_succ, List.getElem_cons_zero, Act.put, List.setIfInBounds_toArray, List.set_cons_zero, List.set_cons_succ]
              refine wpAnyH_ready (rs := [13]) (by kernel_rfl) (by simp) ?_
              refine (AllReadyH.cons rfl (fun K hK => ?_) AllReadyH.nil)
              go_simp
              refine hK.out _ _ HS10.out (fun hHeld => ?_)
              clear hK K
              try simp only [List.getElem_toArray, List.getElem_cons_succ, List.getElem_cons_zero, Act.put, List.setIfInBounds_toArray, List.set_cons_zero, List.set_cons_succ]
              refine wpAnyH_done (by kernel_rfl) ?_ _
              refine NoPanic.normal ?_
              clear hHeld
              go_wp2_with fail
              go_roundw
              case rel => exact LB.next HR9.out HIJ.out hiq
              case measure => simp [intOf]; omega
            · skip
              go_simp
              refine HP.out.mono ?_
              rintro e w7 ⟨cs, t, m'', rfl, hat, hMt, htz, hm'', hmk7, hb7⟩
              have hb7 : But wr.heap.size g wr w7 := ((But.refl wr.heap.size g wr).drew).trans hb7
              obtain ⟨k5, t5, nv5, av5, rfl, o1, o2⟩ := EAt_form hat
              obtain ⟨S7, c7, S8, c8, xs, hx8, hB8, hc9⟩ := LA.step (i := j) (q := Q) (pl := ord l Q) hjQ HOW.out HEB.out HMM.out HMK.out hl5 (by omega) hsz hmm HBT.out hgb1 hgeb1 hne (Et.At.mono (fun _ h => h) _ _ hat) rfl hMt (by rw [hpc]; omega) (by rw [hpc]; omega) hmk7 hb7
              have HS7 := Lib.hid S7
              have HS8 := Lib.hid S8
              have HX := Lib.hid hx8
              have HB8 := Lib.hid hB8
              have HC := Lib.hid hc9
              have HONE : Hid (nv5.oneCell' = true ∧ av5.oneCell' = true) := ⟨o1, o2⟩
              have HBW := Lib.hid hb7.size
              clear hat hMt htz hm'' hmk7 hb7 S7 S8 hx8 hB8 hc9 o1 o2
              refine hK.out _ _ HS7.out (fun hHeld => ?_)
              clear hK K
              try simp only [List.getElem_toArray, List.getElem_cons_succ, List.getElem_cons_zero, Act.put, List.setIfInBounds_toArray, List.set_cons_zero, List.set_cons_succ]
              refine wpAnyH_ready (rs := [1, 10]) (by kernel_rfl) (by simp) ?_
              refine (AllReadyH.cons rfl (fun K hK => ?_) (AllReadyH.cons rfl (fun K hK => ?_) AllReadyH.nil))
              · skip
                go_simp
                refine hK.out _ _ HS7.out (fun hHeld => ?_)
                clear hK K
                try simp only [List.getElem_toArray, List.getElem_cons_succ, List.getElem_cons_zero, Act.put, List.setIfInBounds_toArray, List.set_cons_zero, List.set_cons_succ]
                refine wpAnyH_ready (rs := [10]) (by kernel_rfl) (by simp) ?_
                refine (AllReadyH.cons rfl (fun K hK => ?_) AllReadyH.nil)
                go_simp
                refine hK.out _ _ HS8.out (fun hHeld => ?_)
                clear hK K
                try simp only [List.getElem_toArray, List.getElem_cons_succ, List.getElem_cons_zero, Act.put, List.setIfInBounds_toArray, List.set_cons_zero, List.set_cons_succ]
                refine wpAnyH_ready (rs := [11]) (by kernel_rfl) (by simp) ?_
                refine (AllReadyH.cons rfl (fun K hK => ?_) AllReadyH.nil)
                refine wp_app (Operand.tmp 50) (Operand.tmp 59) rfl W1.heap.size (.slice ao5 j ac5) j xs rfl HX.out _ 1 rfl #[.int .i64 k5, .string t5, nv5, av5].toList rfl (row_cells _ _) (one_cells HONE.out) hi1 HB8.out ?_
                intro v' w9 hown9 hg9 hv9
                obtain ⟨ao', ac', rfl⟩ := own_form hown9
                obtain ⟨S9, e9, f9, S10, HREL⟩ := HC.out _ _ _ hown9 hg9 hv9
                have HS9 := Lib.hid S9
                have HS10 := Lib.hid S10
                have HR9 := Lib.hid HREL
                clear hown9 hg9 hv9 S9 S10 HREL
                refine hK.out _ _ HS9.out (fun hHeld => ?_)
                clear hK K
                try simp only [List.getElem_toArray, List.getElem_cons_succ, List.getElem_cons_zero, Act.put, List.setIfInBounds_toArray, List.set_cons_zero, List.set_cons_succ]
                refine wpAnyH_take (i := 12) (v := Value.pointer (some ⟨ge, 3, none⟩)) rfl (by kernel_rfl) (by kernel_rfl) (by kernel_rfl) (fun _ _ _ h => h) (Or.inl ⟨rfl, fun w' hw' => ?_⟩) hHeld ?_
                · go_simp
                simp only [List.getElem_toArray, List.getElem_cons_succ, List.getElem_cons_zero, Act.put, List.setIfInBounds_toArray, List.set_cons_zero, List.set_cons_succ]
                refine wpAnyH_ready (rs := [13]) (by kernel_rfl) (by simp) ?_
                refine (AllReadyH.cons rfl (fun K hK => ?_) AllReadyH.nil)
                go_simp
                refine hK.out _ _ HS10.out (fun hHeld => ?_)
                clear hK K
                try simp only [List.getElem_toArray, List.getElem_cons_succ, List.getElem_cons_zero, Act.put, List.setIfInBounds_toArray, List.set_cons_zero, List.set_cons_succ]
                refine wpAnyH_done (by kernel_rfl) ?_ _
                refine NoPanic.normal ?_
                clear hHeld
                go_wp2_with fail
                go_roundw
                case rel => exact LB.next HR9.out HIJ.out hiq
                case measure => simp [intOf]; omega
              · skip
                go_simp
                refine hK.out _ _ HS8.out (fun hHeld => ?_)
                clear hK K
                try simp only [List.getElem_toArray, List.getElem_cons_succ, List.getElem_cons_zero, Act.put, List.setIfInBounds_toArray, List.set_cons_zero, List.set_cons_succ]
                refine wpAnyH_ready (rs := [1]) (by kernel_rfl) (by simp) ?_
                refine (AllReadyH.cons rfl (fun K hK => ?_) AllReadyH.nil)
                go_simp
                refine hK.out _ _ HS8.out (fun hHeld => ?_)
                clear hK K
                try simp only [List.getElem_toArray, List.getElem_cons_succ, List.getElem_cons_zero, Act.put, List.setIfInBounds_toArray, List.set_cons_zero, List.set_cons_succ]
                refine wpAnyH_ready (rs := [11]) (by kernel_rfl) (by simp) ?_
                refine (AllReadyH.cons rfl (fun K hK => ?_) AllReadyH.nil)
                refine wp_app (Operand.tmp 50) (Operand.tmp 59) rfl W1.heap.size (.slice ao5 j ac5) j xs rfl HX.out _ 1 rfl #[.int .i64 k5, .string t5, nv5, av5].toList rfl (row_cells _ _) (one_cells HONE.out) hi1 HB8.out ?_
                intro v' w9 hown9 hg9 hv9
                obtain ⟨ao', ac', rfl⟩ := own_form hown9
                obtain ⟨S9, e9, f9, S10, HREL⟩ := HC.out _ _ _ hown9 hg9 hv9
                have HS9 := Lib.hid S9
                have HS10 := Lib.hid S10
                have HR9 := Lib.hid HREL
                clear hown9 hg9 hv9 S9 S10 HREL
                refine hK.out _ _ HS9.out (fun hHeld => ?_)
                clear hK K
                try simp only [List.getElem_toArray, List.getElem_cons_succ, List.getElem_cons_zero, Act.put, List.setIfInBounds_toArray, List.set_cons_zero, List.set_cons_succ]
                refine wpAnyH_take (i := 12) (v := Value.pointer (some ⟨ge, 3, none⟩)) rfl (by kernel_rfl) (by kernel_rfl) (by kernel_rfl) (fun _ _ _ h => h) (Or.inl ⟨rfl, fun w' hw' => ?_⟩) hHeld ?_
                · go_simp
                simp only [List.getElem_toArray, List.getElem_cons_succ, List.getElem_cons_zero, Act.put, List.setIfInBounds_toArray, List.set_cons_zero, List.set_cons_succ]
                refine wpAnyH_ready (rs := [13]) (by kernel_rfl) (by simp) ?_
                refine (AllReadyH.cons rfl (fun K hK => ?_) AllReadyH.nil)
                go_simp
                refine hK.out _ _ HS10.out (fun hHeld => ?_)
                clear hK K
                try simp only [List.getElem_toArray, List.getElem_cons_succ, List.getElem_cons_zero, Act.put, List.setIfInBounds_toArray, List.set_cons_zero, List.set_cons_succ]
                refine wpAnyH_done (by kernel_rfl) ?_ _
                refine NoPanic.normal ?_
                clear hHeld
                go_wp2_with fail
                go_roundw
                case rel => exact LB.next HR9.out HIJ.out hiq
                case measure => simp [intOf]; omega
        · obtain rfl : Q = i := by omega
          obtain ⟨b, k', n', po', pl', pc', hbe, hlj, c0, c1, c2', i1, i2, hpl⟩ := HR.out.get 0 (by omega)
          obtain rfl : b0 = b := by injection hbe
          have ea : b0.add (0 * 3) = b0 := by simp [Addr.add]
          rw [ea] at c0 c1 c2'
          have hpc : pcn (ord l Q) j = (Rw.mk k' n' pl').cnt := pcn_of (by rw [show j = Q - 1 by omega, ord_last l Q (by omega) (by omega), List.getElem?_eq_getElem (by omega), hlj])
          have hjQ : j < Q := by omega
          clear ea
          have hcl := cnts_take_le (ord l Q) (j + 1)
          have hct := pcn_take (ord l Q) j
          have hoc := ord_cnts l Q
          have hcn := HCN.out
          have HP := Lib.hid (HMA.out (.mk k' n' pl') w wr.drew g m' (nms 0 m0) (.slice no m0 nc) (HPr.out.below' (Below.refl _ _).drew) (by omega) po' pc' hpl i1 i2)
          simp only [Rw.num, Rw.at_, Rw.parts] at HP
          have HD : Hid (∀ w', But2 W1.heap.size g ge wr w' → w'.cell? (b0) = some (.int .i64 k') ∧ w'.cell? ⟨(b0).block, (b0).off + 1, none⟩ = some (.int .i64 n') ∧ w'.cell? ⟨(b0).block, (b0).off + 2, none⟩ = some (.slice po' pl'.length pc')) := fun w' hw' => ⟨cell_below (HBr.out.trans (hw'.toBelow hlow1 hlg hlge)) c0, cell_below (HBr.out.trans (hw'.toBelow hlow1 hlg hlge)) c1, cell_below (HBr.out.trans (hw'.toBelow hlow1 hlg hlge)) c2'⟩
          have HS0 : Hid (But2 W1.heap.size g ge wr wr.drew) := But2.drew2 _ _ _ _
          clear hcl hct hoc hcn c0 c1 c2' i1 i2 hpl hlj
          have q3 : decide ((Q : Int) < (l.length : Int)) = true := decide_eq_true (by omega)
          have q4 : decide ((Q : Int) < 5) = false := decide_eq_false (by omega)
          have hl0 : (0 : Int) < (l.length : Int) := by omega
          go_upto_region 15 with fail
          refine wp_region_noPanic ?_
          refine wp_region_held_drew (S := But2 W1.heap.size g ge wr) (by kernel_rfl) (But2.drew2 _ _ _ _) (fun hHeld => ?_)
          refine wpAnyH_take (i := 0) (v := Value.pointer (some ⟨ge, 3, none⟩)) rfl (by kernel_rfl) (by kernel_rfl) (by kernel_rfl) (fun _ _ _ h => h) (Or.inl ⟨rfl, fun w' hw' => ?_⟩) hHeld ?_
          · go_simp
          simp only [List.getElem_toArray, List.getElem_cons_succ, List.getElem_cons_zero, Act.put, List.setIfInBounds_toArray, List.set_cons_zero, List.set_cons_succ]
          refine wpAnyH_take (i := 2) (v := Value.pointer (some ⟨g, 0, none⟩)) rfl (by kernel_rfl) (by kernel_rfl) (by kernel_rfl) (fun _ _ _ h => h) (Or.inl ⟨rfl, fun w' hw' => ?_⟩) hHeld ?_
          · go_simp
          simp only [List.getElem_toArray, List.getElem_cons_succ, List.getElem_cons_zero, Act.put, List.setIfInBounds_toArray, List.set_cons_zero, List.set_cons_succ]
          refine wpAnyH_take (i := 3) (v := Value.slice (some b0) l.length cap) rfl (by kernel_rfl) (by kernel_rfl) (by kernel_rfl) (fun _ _ _ h => h) (Or.inl ⟨rfl, fun w' hw' => ?_⟩) hHeld ?_
          · go_simp
          simp only [List.getElem_toArray, List.getElem_cons_succ, List.getElem_cons_zero, Act.put, List.setIfInBounds_toArray, List.set_cons_zero, List.set_cons_succ]
          refine wpAnyH_take (i := 4) (v := Value.pointer (some b0)) rfl (by kernel_rfl) (by kernel_rfl) (by kernel_rfl) (fun _ _ _ h => h) (Or.inl ⟨rfl, fun w' hw' => ?_⟩) hHeld ?_
          · go_simp
          simp only [List.getElem_toArray, List.getElem_cons_succ, List.getElem_cons_zero, Act.put, List.setIfInBounds_toArray, List.set_cons_zero, List.set_cons_succ]
          refine wpAnyH_take (i := 5) (v := Value.agg #[.int .i64 k', .int .i64 n', .slice po' pl'.length pc']) rfl (by kernel_rfl) (by kernel_rfl) (by kernel_rfl) (fun _ _ _ h => h) (Or.inl ⟨rfl, fun w' hw' => ?_⟩) hHeld ?_
          · obtain ⟨d0, d1, d2⟩ := HD.out w' hw'; go_simp
          simp only [List.getElem_toArray, List.getElem_cons_succ, List.getElem_cons_zero, Act.put, List.setIfInBounds_toArray, List.set_cons_zero, List.set_cons_succ]
          refine wpAnyH_take (i := 6) (v := Value.pointer (some ⟨ge, 2, none⟩)) rfl (by kernel_rfl) (by kernel_rfl) (by kernel_rfl) (fun _ _ _ h => h) (Or.inl ⟨rfl, fun w' hw' => ?_⟩) hHeld ?_
          · go_simp
          simp only [List.getElem_toArray, List.getElem_cons_succ, List.getElem_cons_zero, Act.put, List.setIfInBounds_toArray, List.set_cons_zero, List.set_cons_succ]
          refine wpAnyH_ready (rs := [1, 7]) (by kernel_rfl) (by simp) ?_
          refine (AllReadyH.cons rfl (fun K hK => ?_) (AllReadyH.cons rfl (fun K hK => ?_) AllReadyH.nil))
          · skip
            go_simp
            refine hK.out _ _ HS0.out (fun hHeld => ?_)
            clear hK K
            try simp only [List.getElem_toArray, List.getElem_cons_succ, List.getElem_cons_zero, Act.put, List.setIfInBounds_toArray, List.set_cons_zero, List.set_cons_succ]
            refine wpAnyH_ready (rs := [7]) (by kernel_rfl) (by simp) ?_
            refine (AllReadyH.cons rfl (fun K hK => ?_) AllReadyH.nil)
            go_simp
            refine hK.out _ _ HS0.out (fun hHeld => ?_)
            clear hK K
            try simp only [List.getElem_toArray, List.getElem_cons_succ, List.getElem_cons_zero, Act.put, List.setIfInBounds_toArray, List.set_cons_zero, List.set_cons_succ]
            refine wpAnyH_ready (rs := [8]) (by kernel_rfl) (by simp) ?_
            refine (AllReadyH.cons rfl (fun K hK => ?_) AllReadyH.nil)
            go_simp
            refine HP.out.mono ?_
            rintro e w7 ⟨cs, t, m'', rfl, hat, hMt, htz, hm'', hmk7, hb7⟩
            have hb7 : But wr.heap.size g wr w7 := ((But.refl wr.heap.size g wr).drew).trans hb7
            obtain ⟨k5, t5, nv5, av5, rfl, o1, o2⟩ := EAt_form hat
            obtain ⟨S7, c7, S8, c8, xs, hx8, hB8, hc9⟩ := LA.step (i := j) (q := Q) (pl := ord l Q) hjQ HOW.out HEB.out HMM.out HMK.out hl5 (by omega) hsz hmm HBT.out hgb1 hgeb1 hne (Et.At.mono (fun _ h => h) _ _ hat) rfl hMt (by rw [hpc]; omega) (by rw [hpc]; omega) hmk7 hb7
            have HS7 := Lib.hid S7
            have HS8 := Lib.hid S8
            have HX := Lib.hid hx8
            have HB8 := Lib.hid hB8
            have HC := Lib.hid hc9
            have HONE : Hid (nv5.oneCell' = true ∧ av5.oneCell' = true) := ⟨o1, o2⟩
            have HBW := Lib.hid hb7.size
            clear hat hMt htz hm'' hmk7 hb7 S7 S8 hx8 hB8 hc9 o1 o2
            refine hK.out _ _ HS7.out (fun hHeld => ?_)
            clear hK K
            try simp only [List.getElem_toArray, List.getElem_cons_succ, List.getElem_cons_zero, Act.put, List.setIfInBounds_toArray, List.set_cons_zero, List.set_cons_succ]
            refine wpAnyH_ready (rs := [9]) (by kernel_rfl) (by simp) ?_
            refine (AllReadyH.cons rfl (fun K hK => ?_) AllReadyH.nil)
            go_simp
            refine hK.out _ _ HS8.out (fun hHeld => ?_)
            clear hK K
            try simp only [List.getElem_toArray, List.getElem_cons_succ, List.getElem_cons_zero, Act.put, List.setIfInBounds_toArray, List.set_cons_zero, List.set_cons_succ]
            refine wpAnyH_ready (rs := [10]) (by kernel_rfl) (by simp) ?_
            refine (AllReadyH.cons rfl (fun K hK => ?_) AllReadyH.nil)
            refine wp_app (Operand.tmp 63) (Operand.tmp 71) rfl W1.heap.size (.slice ao5 j ac5) j xs rfl HX.out _ 1 rfl #[.int .i64 k5, .string t5, nv5, av5].toList rfl (row_cells _ _) (one_cells HONE.out) hi1 HB8.out ?_
            intro v' w9 hown9 hg9 hv9
            obtain ⟨ao', ac', rfl⟩ := own_form hown9
            obtain ⟨S9, e9, f9, S10, HREL⟩ := HC.out _ _ _ hown9 hg9 hv9
            have HS9 := Lib.hid S9
            have HS10 := Lib.hid S10
            have HR9 := Lib.hid HREL
            clear hown9 hg9 hv9 S9 S10 HREL
            refine hK.out _ _ HS9.out (fun hHeld => ?_)
            clear hK K
            try simp only [List.getElem_toArray, List.getElem_cons_succ, List.getElem_cons_zero, Act.put, List.setIfInBounds_toArray, List.set_cons_zero, List.set_cons_succ]
            refine wpAnyH_take (i := 11) (v := Value.pointer (some ⟨ge, 3, none⟩)) rfl (by kernel_rfl) (by kernel_rfl) (by kernel_rfl) (fun _ _ _ h => h) (Or.inl ⟨rfl, fun w' hw' => ?_⟩) hHeld ?_
            · go_simp
            simp only [List.getElem_toArray, List.getElem_cons_succ, List.getElem_cons_zero, Act.put, List.setIfInBounds_toArray, List.set_cons_zero, List.set_cons_succ]
            refine wpAnyH_ready (rs := [12]) (by kernel_rfl) (by simp) ?_
            refine (AllReadyH.cons rfl (fun K hK => ?_) AllReadyH.nil)
            go_simp
            refine hK.out _ _ HS10.out (fun hHeld => ?_)
            clear hK K
            try simp only [List.getElem_toArray, List.getElem_cons_succ, List.getElem_cons_zero, Act.put, List.setIfInBounds_toArray, List.set_cons_zero, List.set_cons_succ]
            refine wpAnyH_done (by kernel_rfl) ?_ _
            refine NoPanic.normal ?_
            clear hHeld
            obtain ⟨av9, HEB9, HZ9, hone, hfin⟩ := term_last HR9.out HIJ.out HMQ.out hQ5 hQ2 HCN.out HN1.out HZB.out HBB.out hwg1 hwge1 hgb hgeb hwW hW01
            have HEBf := Lib.hid HEB9
            have HZf := Lib.hid HZ9
            have HF := Lib.hid hfin
            clear HEB9 HZ9 hfin
            go_wp2_with (first | (refine wpList_load_row rfl 28 _ rfl ge rfl 28 #[.int .i64 9, .string ⟨#[]⟩, .slice no m0 nc, av9] (0, 0) _ HEBf.out Tryd.underlying28 rfl info28 ?_) | (refine wpList_store_row rfl 28 _ _ rfl w.heap.size #[.int .i64 9, .string ⟨#[]⟩, .slice no m0 nc, av9] rfl rfl 28 Z4 HZf.out info28 rfl hone ?_))
            refine bodyPost_ret (results_cell_row rfl _ _ w.heap.size 28 #[.int .i64 9, .string ⟨#[]⟩, .slice no m0 nc, av9] (0, 0) _ rfl (setRow_heap _ _ _ _ 28 _ HZf.out) Tryd.underlying28 rfl info28) rfl ?_
            exact HF.out
          · skip
            go_simp
            refine hK.out _ _ HS0.out (fun hHeld => ?_)
            clear hK K
            try simp only [List.getElem_toArray, List.getElem_cons_succ, List.getElem_cons_zero, Act.put, List.setIfInBounds_toArray, List.set_cons_zero, List.set_cons_succ]
            refine wpAnyH_ready (rs := [1, 8]) (by kernel_rfl) (by simp) ?_
            refine (AllReadyH.cons rfl (fun K hK => ?_) (AllReadyH.cons rfl (fun K hK => ?_) AllReadyH.nil))
            · skip
              go_simp
              refine hK.out _ _ HS0.out (fun hHeld => ?_)
              clear hK K
              try simp only [List.getElem_toArray, List.getElem_cons_succ, List.getElem_cons_zero, Act.put, List.setIfInBounds_toArray, List.set_cons_zero, List.set_cons_succ]
              refine wpAnyH_ready (rs := [8]) (by kernel_rfl) (by simp) ?_
              refine (AllReadyH.cons rfl (fun K hK => ?_) AllReadyH.nil)
              go_simp
              refine HP.out.mono ?_
              rintro e w7 ⟨cs, t, m'', rfl, hat, hMt, htz, hm'', hmk7, hb7⟩
              have hb7 : But wr.heap.size g wr w7 := ((But.refl wr.heap.size g wr).drew).trans hb7
              obtain ⟨k5, t5, nv5, av5, rfl, o1, o2⟩ := EAt_form hat
              obtain ⟨S7, c7, S8, c8, xs, hx8, hB8, hc9⟩ := LA.step (i := j) (q := Q) (pl := ord l Q) hjQ HOW.out HEB.out HMM.out HMK.out hl5 (by omega) hsz hmm HBT.out hgb1 hgeb1 hne (Et.At.mono (fun _ h => h) _ _ hat) rfl hMt (by rw [hpc]; omega) (by rw [hpc]; omega) hmk7 hb7
              have HS7 := Lib.hid S7
              have HS8 := Lib.hid S8
              have HX := Lib.hid hx8
              have HB8 := Lib.hid hB8
              have HC := Lib.hid hc9
              have HONE : Hid (nv5.oneCell' = true ∧ av5.oneCell' = true) := ⟨o1, o2⟩
              have HBW := Lib.hid hb7.size
              clear hat hMt htz hm'' hmk7 hb7 S7 S8 hx8 hB8 hc9 o1 o2
              refine hK.out _ _ HS7.out (fun hHeld => ?_)
              clear hK K
              try simp only [List.getElem_toArray, List.getElem_cons_succ, List.getElem_cons_zero, Act.put, List.setIfInBounds_toArray, List.set_cons_zero, List.set_cons_succ]
              refine wpAnyH_ready (rs := [9]) (by kernel_rfl) (by simp) ?_
              refine (AllReadyH.cons rfl (fun K hK => ?_) AllReadyH.nil)
              go_simp
              refine hK.out _ _ HS8.out (fun hHeld => ?_)
              clear hK K
              try simp only [List.getElem_toArray, List.getElem_cons_succ, List.getElem_cons_zero, Act.put, List.setIfInBounds_toArray, List.set_cons_zero, List.set_cons_succ]
              refine wpAnyH_ready (rs := [10]) (by kernel_rfl) (by simp) ?_
              refine (AllReadyH.cons rfl (fun K hK => ?_) AllReadyH.nil)
              refine wp_app (Operand.tmp 63) (Operand.tmp 71) rfl W1.heap.size (.slice ao5 j ac5) j xs rfl HX.out _ 1 rfl #[.int .i64 k5, .string t5, nv5, av5].toList rfl (row_cells _ _) (one_cells HONE.out) hi1 HB8.out ?_
              intro v' w9 hown9 hg9 hv9
              obtain ⟨ao', ac', rfl⟩ := own_form hown9
              obtain ⟨S9, e9, f9, S10, HREL⟩ := HC.out _ _ _ hown9 hg9 hv9
              have HS9 := Lib.hid S9
              have HS10 := Lib.hid S10
              have HR9 := Lib.hid HREL
              clear hown9 hg9 hv9 S9 S10 HREL
              refine hK.out _ _ HS9.out (fun hHeld => ?_)
              clear hK K
              try simp only [List.getElem_toArray, List.getElem_cons_succ, List.getElem_cons_zero, Act.put, List.setIfInBounds_toArray, List.set_cons_zero, List.set_cons_succ]
              refine wpAnyH_take (i := 11) (v := Value.pointer (some ⟨ge, 3, none⟩)) rfl (by kernel_rfl) (by kernel_rfl) (by kernel_rfl) (fun _ _ _ h => h) (Or.inl ⟨rfl, fun w' hw' => ?_⟩) hHeld ?_
              · go_simp
              simp only [List.getElem_toArray, List.getElem_cons_succ, List.getElem_cons_zero, Act.put, List.setIfInBounds_toArray, List.set_cons_zero, List.set_cons_succ]
              refine wpAnyH_ready (rs := [12]) (by kernel_rfl) (by simp) ?_
              refine (AllReadyH.cons rfl (fun K hK => ?_) AllReadyH.nil)
              go_simp
              refine hK.out _ _ HS10.out (fun hHeld => ?_)
              clear hK K
              try simp only [List.getElem_toArray, List.getElem_cons_succ, List.getElem_cons_zero, Act.put, List.setIfInBounds_toArray, List.set_cons_zero, List.set_cons_succ]
              refine wpAnyH_done (by kernel_rfl) ?_ _
              refine NoPanic.normal ?_
              clear hHeld
              obtain ⟨av9, HEB9, HZ9, hone, hfin⟩ := term_last HR9.out HIJ.out HMQ.out hQ5 hQ2 HCN.out HN1.out HZB.out HBB.out hwg1 hwge1 hgb hgeb hwW hW01
              have HEBf := Lib.hid HEB9
              have HZf := Lib.hid HZ9
              have HF := Lib.hid hfin
              clear HEB9 HZ9 hfin
              go_wp2_with (first | (refine wpList_load_row rfl 28 _ rfl ge rfl 28 #[.int .i64 9, .string ⟨#[]⟩, .slice no m0 nc, av9] (0, 0) _ HEBf.out Tryd.underlying28 rfl info28 ?_) | (refine wpList_store_row rfl 28 _ _ rfl w.heap.size #[.int .i64 9, .string ⟨#[]⟩, .slice no m0 nc, av9] rfl rfl 28 Z4 HZf.out info28 rfl hone ?_))
              refine bodyPost_ret (results_cell_row rfl _ _ w.heap.size 28 #[.int .i64 9, .string ⟨#[]⟩, .slice no m0 nc, av9] (0, 0) _ rfl (setRow_heap _ _ _ _ 28 _ HZf.out) Tryd.underlying28 rfl info28) rfl ?_
              exact HF.out
            · skip
              go_simp
              refine HP.out.mono ?_
              rintro e w7 ⟨cs, t, m'', rfl, hat, hMt, htz, hm'', hmk7, hb7⟩
              have hb7 : But wr.heap.size g wr w7 := ((But.refl wr.heap.size g wr).drew).trans hb7
              obtain ⟨k5, t5, nv5, av5, rfl, o1, o2⟩ := EAt_form hat
              obtain ⟨S7, c7, S8, c8, xs, hx8, hB8, hc9⟩ := LA.step (i := j) (q := Q) (pl := ord l Q) hjQ HOW.out HEB.out HMM.out HMK.out hl5 (by omega) hsz hmm HBT.out hgb1 hgeb1 hne (Et.At.mono (fun _ h => h) _ _ hat) rfl hMt (by rw [hpc]; omega) (by rw [hpc]; omega) hmk7 hb7
              have HS7 := Lib.hid S7
              have HS8 := Lib.hid S8
              have HX := Lib.hid hx8
              have HB8 := Lib.hid hB8
              have HC := Lib.hid hc9
              have HONE : Hid (nv5.oneCell' = true ∧ av5.oneCell' = true) := ⟨o1, o2⟩
              have HBW := Lib.hid hb7.size
              clear hat hMt htz hm'' hmk7 hb7 S7 S8 hx8 hB8 hc9 o1 o2
              refine hK.out _ _ HS7.out (fun hHeld => ?_)
              clear hK K
              try simp only [List.getElem_toArray, List.getElem_cons_succ, List.getElem_cons_zero, Act.put, List.setIfInBounds_toArray, List.set_cons_zero, List.set_cons_succ]
              refine wpAnyH_ready (rs := [1, 9]) (by kernel_rfl) (by simp) ?_
              refine (AllReadyH.cons rfl (fun K hK => ?_) (AllReadyH.cons rfl (fun K hK => ?_) AllReadyH.nil))
              · skip
                go_simp
                refine hK.out _ _ HS7.out (fun hHeld => ?_)
                clear hK K
                try simp only [List.getElem_toArray, List.getElem_cons_succ, List.getElem_cons_zero, Act.put, List.setIfInBounds_toArray, List.set_cons_zero, List.set_cons_succ]
                refine wpAnyH_ready (rs := [9]) (by kernel_rfl) (by simp) ?_
                refine (AllReadyH.cons rfl (fun K hK => ?_) AllReadyH.nil)
                go_simp
                refine hK.out _ _ HS8.out (fun hHeld => ?_)
                clear hK K
                try simp only [List.getElem_toArray, List.getElem_cons_succ, List.getElem_cons_zero, Act.put, List.setIfInBounds_toArray, List.set_cons_zero, List.set_cons_succ]
                refine wpAnyH_ready (rs := [10]) (by kernel_rfl) (by simp) ?_
                refine (AllReadyH.cons rfl (fun K hK => ?_) AllReadyH.nil)
                refine wp_app (Operand.tmp 63) (Operand.tmp 71) rfl W1.heap.size (.slice ao5 j ac5) j xs rfl HX.out _ 1 rfl #[.int .i64 k5, .string t5, nv5, av5].toList rfl (row_cells _ _) (one_cells HONE.out) hi1 HB8.out ?_
                intro v' w9 hown9 hg9 hv9
                obtain ⟨ao', ac', rfl⟩ := own_form hown9
                obtain ⟨S9, e9, f9, S10, HREL⟩ := HC.out _ _ _ hown9 hg9 hv9
                have HS9 := Lib.hid S9
                have HS10 := Lib.hid S10
                have HR9 := Lib.hid HREL
                clear hown9 hg9 hv9 S9 S10 HREL
                refine hK.out _ _ HS9.out (fun hHeld => ?_)
                clear hK K
                try simp only [List.getElem_toArray, List.getElem_cons_succ, List.getElem_cons_zero, Act.put, List.setIfInBounds_toArray, List.set_cons_zero, List.set_cons_succ]
                refine wpAnyH_take (i := 11) (v := Value.pointer (some ⟨ge, 3, none⟩)) rfl (by kernel_rfl) (by kernel_rfl) (by kernel_rfl) (fun _ _ _ h => h) (Or.inl ⟨rfl, fun w' hw' => ?_⟩) hHeld ?_
                · go_simp
                simp only [List.getElem_toArray, List.getElem_cons_succ, List.getElem_cons_zero, Act.put, List.setIfInBounds_toArray, List.set_cons_zero, List.set_cons_succ]
                refine wpAnyH_ready (rs := [12]) (by kernel_rfl) (by simp) ?_
                refine (AllReadyH.cons rfl (fun K hK => ?_) AllReadyH.nil)
                go_simp
                refine hK.out _ _ HS10.out (fun hHeld => ?_)
                clear hK K
                try simp only [List.getElem_toArray, List.getElem_cons_succ, List.getElem_cons_zero, Act.put, List.setIfInBounds_toArray, List.set_cons_zero, List.set_cons_succ]
                refine wpAnyH_done (by kernel_rfl) ?_ _
                refine NoPanic.normal ?_
                clear hHeld
                obtain ⟨av9, HEB9, HZ9, hone, hfin⟩ := term_last HR9.out HIJ.out HMQ.out hQ5 hQ2 HCN.out HN1.out HZB.out HBB.out hwg1 hwge1 hgb hgeb hwW hW01
                have HEBf := Lib.hid HEB9
                have HZf := Lib.hid HZ9
                have HF := Lib.hid hfin
                clear HEB9 HZ9 hfin
                go_wp2_with (first | (refine wpList_load_row rfl 28 _ rfl ge rfl 28 #[.int .i64 9, .string ⟨#[]⟩, .slice no m0 nc, av9] (0, 0) _ HEBf.out Tryd.underlying28 rfl info28 ?_) | (refine wpList_store_row rfl 28 _ _ rfl w.heap.size #[.int .i64 9, .string ⟨#[]⟩, .slice no m0 nc, av9] rfl rfl 28 Z4 HZf.out info28 rfl hone ?_))
                refine bodyPost_ret (results_cell_row rfl _ _ w.heap.size 28 #[.int .i64 9, .string ⟨#[]⟩, .slice no m0 nc, av9] (0, 0) _ rfl (setRow_heap _ _ _ _ 28 _ HZf.out) Tryd.underlying28 rfl info28) rfl ?_
                exact HF.out
              · skip
                go_simp
                refine hK.out _ _ HS8.out (fun hHeld => ?_)
                clear hK K
                try simp only [List.getElem_toArray, List.getElem_cons_succ, List.getElem_cons_zero, Act.put, List.setIfInBounds_toArray, List.set_cons_zero, List.set_cons_succ]
                refine wpAnyH_ready (rs := [1]) (by kernel_rfl) (by simp) ?_
                refine (AllReadyH.cons rfl (fun K hK => ?_) AllReadyH.nil)
                go_simp
                refine hK.out _ _ HS8.out (fun hHeld => ?_)
                clear hK K
                try simp only [List.getElem_toArray, List.getElem_cons_succ, List.getElem_cons_zero, Act.put, List.setIfInBounds_toArray, List.set_cons_zero, List.set_cons_succ]
                refine wpAnyH_ready (rs := [10]) (by kernel_rfl) (by simp) ?_
                refine (AllReadyH.cons rfl (fun K hK => ?_) AllReadyH.nil)
                refine wp_app (Operand.tmp 63) (Operand.tmp 71) rfl W1.heap.size (.slice ao5 j ac5) j xs rfl HX.out _ 1 rfl #[.int .i64 k5, .string t5, nv5, av5].toList rfl (row_cells _ _) (one_cells HONE.out) hi1 HB8.out ?_
                intro v' w9 hown9 hg9 hv9
                obtain ⟨ao', ac', rfl⟩ := own_form hown9
                obtain ⟨S9, e9, f9, S10, HREL⟩ := HC.out _ _ _ hown9 hg9 hv9
                have HS9 := Lib.hid S9
                have HS10 := Lib.hid S10
                have HR9 := Lib.hid HREL
                clear hown9 hg9 hv9 S9 S10 HREL
                refine hK.out _ _ HS9.out (fun hHeld => ?_)
                clear hK K
                try simp only [List.getElem_toArray, List.getElem_cons_succ, List.getElem_cons_zero, Act.put, List.setIfInBounds_toArray, List.set_cons_zero, List.set_cons_succ]
                refine wpAnyH_take (i := 11) (v := Value.pointer (some ⟨ge, 3, none⟩)) rfl (by kernel_rfl) (by kernel_rfl) (by kernel_rfl) (fun _ _ _ h => h) (Or.inl ⟨rfl, fun w' hw' => ?_⟩) hHeld ?_
                · go_simp
                simp only [List.getElem_toArray, List.getElem_cons_succ, List.getElem_cons_zero, Act.put, List.setIfInBounds_toArray, List.set_cons_zero, List.set_cons_succ]
                refine wpAnyH_ready (rs := [12]) (by kernel_rfl) (by simp) ?_
                refine (AllReadyH.cons rfl (fun K hK => ?_) AllReadyH.nil)
                go_simp
                refine hK.out _ _ HS10.out (fun hHeld => ?_)
                clear hK K
                try simp only [List.getElem_toArray, List.getElem_cons_succ, List.getElem_cons_zero, Act.put, List.setIfInBounds_toArray, List.set_cons_zero, List.set_cons_succ]
                refine wpAnyH_done (by kernel_rfl) ?_ _
                refine NoPanic.normal ?_
                clear hHeld
                obtain ⟨av9, HEB9, HZ9, hone, hfin⟩ := term_last HR9.out HIJ.out HMQ.out hQ5 hQ2 HCN.out HN1.out HZB.out HBB.out hwg1 hwge1 hgb hgeb hwW hW01
                have HEBf := Lib.hid HEB9
                have HZf := Lib.hid HZ9
                have HF := Lib.hid hfin
                clear HEB9 HZ9 hfin
                go_wp2_with (first | (refine wpList_load_row rfl 28 _ rfl ge rfl 28 #[.int .i64 9, .string ⟨#[]⟩, .slice no m0 nc, av9] (0, 0) _ HEBf.out Tryd.underlying28 rfl info28 ?_) | (refine wpList_store_row rfl 28 _ _ rfl w.heap.size #[.int .i64 9, .string ⟨#[]⟩, .slice no m0 nc, av9] rfl rfl 28 Z4 HZf.out info28 rfl hone ?_))
                refine bodyPost_ret (results_cell_row rfl _ _ w.heap.size 28 #[.int .i64 9, .string ⟨#[]⟩, .slice no m0 nc, av9] (0, 0) _ rfl (setRow_heap _ _ _ _ 28 _ HZf.out) Tryd.underlying28 rfl info28) rfl ?_
                exact HF.out
end Go.Proofs.YtmcgocbkjdacaaaDoor
