/- The document's next name. -/
import Derived.Test.YtmcgocbkjdacaaaDoorNX
namespace Go.Proofs.YtmcgocbkjdacaaaDoor
open Go.RowKit Go.BigM
set_option linter.unusedVariables false
set_option linter.unusedSimpArgs false
set_option maxHeartbeats 4000000 in
set_option maxRecDepth 100000 in
theorem rnext_any (g N : Nat) (w : World) (h : Rk w g N) (hN : N ≤ 100000) : Calls Tryd.prog 53 #[.pointer (some ⟨g, 0, none⟩)] w (RetRp g N w) := by
  unfold RetRp
  obtain ⟨M, hMN⟩ : ∃ M, M = N + 1 := ⟨_, rfl⟩
  rw [← hMN]
  have c0 : w.cell? ⟨g, 1, none⟩ = some (.int .i64 (N : Int)) := by rw [Lib.cell_of_heap h]; rfl
  have hf := frozen_of_row w g 1 _ 63 h
  have hgl := h.lt
  have h1 := heap_setCell_same w g 1 _ 63 (.int .i64 (M : Int)) h
  have hM : Rk (w.setCell ⟨g, 1, none⟩ (.int .i64 (M : Int))) g M := by
    unfold Rk; rw [h1]; rfl
  have HM := Lib.hid hM
  have HBU := Lib.hid ((But.refl w.heap.size g w).setCell (p := ⟨g, 1, none⟩) (.inr rfl) (.int .i64 (M : Int)))
  have HD := Lib.hid (fun w => rdigits_any M M (Nat.le_refl _) (by omega) w)
  have z1 : (dgn M).length ≤ 10 := dgn_len 9 M (by omega)
  obtain ⟨sv, hsv⟩ : ∃ s : ByteArray, s = ⟨(dgn M).toArray⟩ := ⟨_, rfl⟩
  have y1 : sv.size ≤ 10 := by rw [hsv]; simpa [ByteArray.size] using z1
  have HE : Hid (⟨#[37, 46]⟩ ++ sv = pn M) := by
    show _ = _
    rw [hsv]
    have := str_app [37, 46] (dgn M)
    exact this
  rw [← hsv] at HD
  have e1 : (N : Int) + 1 = (M : Int) := by omega
  have hsz : (w.setCell ⟨g, 1, none⟩ (.int .i64 (M : Int))).heap.size = w.heap.size := by simp [World.setCell]
  have HSZ := Lib.hid hsz
  clear h h1 hM hsv z1 hMN hsz
  go_enter Tryd.func53, Tryd.ntmps53
  go_upto_region 2 with fail
  generalize w.setCell ⟨g, 1, none⟩ (.int .i64 (M : Int)) = W1 at HM HBU HSZ ⊢
  have HCE : Hid (∀ w', Below W1.heap.size W1 w' → w'.cell? ⟨g, 0, none⟩ = some (.string ⟨#[37, 46]⟩) ∧ w'.cell? ⟨g, 1, none⟩ = some (.int .i64 (M : Int))) := fun w' hw' => by
    have hm := HM.out.below hw'
    unfold Rk at hm
    exact ⟨by rw [Lib.cell_of_heap hm]; rfl, by rw [Lib.cell_of_heap hm]; rfl⟩
  have HS0 : Hid (Below W1.heap.size W1 W1.drew) := (Below.refl _ _).drew
  refine wp_region_noPanic ?_
  refine wp_region_held_drew (S := Below W1.heap.size W1) (by kernel_rfl) HS0.out (fun hHeld => ?_)
  generalize W1.drew = X at HS0 hHeld ⊢
  refine wpAnyH_take (i := 0) (v := Value.pointer (some ⟨g, 0, none⟩)) rfl (by kernel_rfl) (by kernel_rfl) (by kernel_rfl) (fun _ _ _ h => h) (Or.inl ⟨rfl, fun w' hw' => ?_⟩) hHeld ?_
  · go_simp
  simp only [List.getElem_toArray, List.getElem_cons_succ, List.getElem_cons_zero, Act.put, List.setIfInBounds_toArray, List.set_cons_zero, List.set_cons_succ]
  refine wpAnyH_take (i := 1) (v := Value.pointer (some ⟨g, 0, none⟩)) rfl (by kernel_rfl) (by kernel_rfl) (by kernel_rfl) (fun _ _ _ h => h) (Or.inl ⟨rfl, fun w' hw' => ?_⟩) hHeld ?_
  · go_simp
  simp only [List.getElem_toArray, List.getElem_cons_succ, List.getElem_cons_zero, Act.put, List.setIfInBounds_toArray, List.set_cons_zero, List.set_cons_succ]
  refine wpAnyH_take (i := 2) (v := Value.pointer (some ⟨g, 0, none⟩)) rfl (by kernel_rfl) (by kernel_rfl) (by kernel_rfl) (fun _ _ _ h => h) (Or.inl ⟨rfl, fun w' hw' => ?_⟩) hHeld ?_
  · go_simp
  simp only [List.getElem_toArray, List.getElem_cons_succ, List.getElem_cons_zero, Act.put, List.setIfInBounds_toArray, List.set_cons_zero, List.set_cons_succ]
  refine wpAnyH_take (i := 3) (v := Value.string ⟨#[37, 46]⟩) rfl (by kernel_rfl) (by kernel_rfl) (by kernel_rfl) (fun _ _ _ h => h) (Or.inl ⟨rfl, fun w' hw' => ?_⟩) hHeld ?_
  · obtain ⟨d0, d1⟩ := HCE.out w' hw'; go_simp
  simp only [List.getElem_toArray, List.getElem_cons_succ, List.getElem_cons_zero, Act.put, List.setIfInBounds_toArray, List.set_cons_zero, List.set_cons_succ]
  refine wpAnyH_take (i := 4) (v := Value.pointer (some ⟨g, 0, none⟩)) rfl (by kernel_rfl) (by kernel_rfl) (by kernel_rfl) (fun _ _ _ h => h) (Or.inl ⟨rfl, fun w' hw' => ?_⟩) hHeld ?_
  · go_simp
  simp only [List.getElem_toArray, List.getElem_cons_succ, List.getElem_cons_zero, Act.put, List.setIfInBounds_toArray, List.set_cons_zero, List.set_cons_succ]
  refine wpAnyH_take (i := 5) (v := Value.pointer (some ⟨g, 0, none⟩)) rfl (by kernel_rfl) (by kernel_rfl) (by kernel_rfl) (fun _ _ _ h => h) (Or.inl ⟨rfl, fun w' hw' => ?_⟩) hHeld ?_
  · go_simp
  simp only [List.getElem_toArray, List.getElem_cons_succ, List.getElem_cons_zero, Act.put, List.setIfInBounds_toArray, List.set_cons_zero, List.set_cons_succ]
  refine wpAnyH_take (i := 6) (v := Value.pointer (some ⟨g, 1, none⟩)) rfl (by kernel_rfl) (by kernel_rfl) (by kernel_rfl) (fun _ _ _ h => h) (Or.inl ⟨rfl, fun w' hw' => ?_⟩) hHeld ?_
  · go_simp
  simp only [List.getElem_toArray, List.getElem_cons_succ, List.getElem_cons_zero, Act.put, List.setIfInBounds_toArray, List.set_cons_zero, List.set_cons_succ]
  refine wpAnyH_take (i := 7) (v := Value.int .i64 (M : Int)) rfl (by kernel_rfl) (by kernel_rfl) (by kernel_rfl) (fun _ _ _ h => h) (Or.inl ⟨rfl, fun w' hw' => ?_⟩) hHeld ?_
  · obtain ⟨d0, d1⟩ := HCE.out w' hw'; go_simp
  simp only [List.getElem_toArray, List.getElem_cons_succ, List.getElem_cons_zero, Act.put, List.setIfInBounds_toArray, List.set_cons_zero, List.set_cons_succ]
  refine wpAnyH_ready (rs := [8]) (by kernel_rfl) (by simp) ?_
  refine (AllReadyH.cons rfl (fun K hK => ?_) AllReadyH.nil)
  go_simp
  refine (HD.out _).mono ?_
  rintro r u8 ⟨rfl, hbq⟩
  have HS8 : Hid (Below W1.heap.size W1 u8) := HS0.out.trans (hbq.mono HS0.out.size)
  clear hbq
  refine hK.out _ _ HS8.out (fun hHeld => ?_)
  clear hK K
  try simp only [List.getElem_toArray, List.getElem_cons_succ, List.getElem_cons_zero, Act.put, List.setIfInBounds_toArray, List.set_cons_zero, List.set_cons_succ]
  refine wpAnyH_take (i := 9) (v := Value.string (⟨#[37, 46]⟩ ++ sv)) rfl (by kernel_rfl) (by kernel_rfl) (by kernel_rfl) (fun _ _ _ h => h) (Or.inl ⟨rfl, fun w' hw' => ?_⟩) hHeld ?_
  · go_simp; omega
  simp only [List.getElem_toArray, List.getElem_cons_succ, List.getElem_cons_zero, Act.put, List.setIfInBounds_toArray, List.set_cons_zero, List.set_cons_succ]
  refine wpAnyH_take (i := 10) (v := Value.string (⟨#[37, 46]⟩ ++ sv)) rfl (by kernel_rfl) (by kernel_rfl) (by kernel_rfl) (fun _ _ _ h => h) (Or.inl ⟨rfl, fun w' hw' => ?_⟩) hHeld ?_
  · go_simp
  simp only [List.getElem_toArray, List.getElem_cons_succ, List.getElem_cons_zero, Act.put, List.setIfInBounds_toArray, List.set_cons_zero, List.set_cons_succ]
  refine wpAnyH_done (by kernel_rfl) ?_ _
  refine NoPanic.normal ?_
  clear hHeld
  have H1 := Lib.hid (HM.out.below HS8.out)
  have H2 := Lib.hid (HBU.out.trans (But.of (HS8.out.mono (by rw [HSZ.out]; exact Nat.le_refl _))))
  go_wp2_with fail
  go_ret
  exact ⟨by rw [← HE.out]; rfl, H1.out, H2.out⟩
end Go.Proofs.YtmcgocbkjdacaaaDoor
