/- Text's contract. -/
import Derived.Test.YtcalbcllmmoldaaTX3
namespace Go.Proofs.Ytcalbcllmmoldaa
open Go.RowKit Go.BigM
set_option linter.unusedVariables false
set_option linter.unusedSimpArgs false
theorem kind_of_right {k : Int} {t : ByteArray} {ns : List ByteArray} {a : List Et} (h : (Et.mk k t ns a).right num = true) :
    (k = 1 ∨ k = 2 ∨ k = 3 ∨ k = 4 ∨ k = 5 ∨ k = 6 ∨ k = 7 ∨ k = 8 ∨ k = 9 ∨ k = 10) ∧ Et.rights num a = true ∧ (k = 9 → a.length = ns.length + 1 ∧ Once ns) ∧ (k = 10 → 0 < arity t) ∧ (k = 6 → a.length = 1 ∧ Once ns) ∧ (k = 8 → a.length = 3) ∧ (k = 7 → 2 ≤ a.length) ∧ (k = 10 → a.length = arity t) ∧ (k ≠ 6 → k ≠ 9 → ns = []) ∧ (k = 1 ∨ k = 2 ∨ k = 3 ∨ k = 4 ∨ k = 5 → a = []) := by
  rw [right_mk] at h
  simp only [Bool.and_eq_true, shapeB] at h
  obtain ⟨⟨⟨h1, h2⟩, h3⟩, h4⟩ := h
  have hk : k = 1 ∨ k = 2 ∨ k = 3 ∨ k = 4 ∨ k = 5 ∨ k = 6 ∨ k = 7 ∨ k = 8 ∨ k = 9 ∨ k = 10 := by
    unfold textB at h1
    split at h1
    · omega
    · split at h1
      · omega
      · split at h1
        · omega
        · split at h1
          · omega
          · split at h1
            · omega
            · cases h1
  refine ⟨hk, h4, ?_, ?_, ?_, ?_, ?_, ?_, ?_, ?_⟩
  · rintro rfl
    simp [namesB, partsB] at h2 h3
    exact ⟨h3, h2.2⟩
  · rintro rfl
    simpa [textB] using h1
  · rintro rfl
    simp [namesB, partsB] at h2 h3
    exact ⟨h3, h2.2⟩
  · rintro rfl
    simpa [partsB] using h3
  · rintro rfl
    simpa [partsB] using h3
  · rintro rfl
    simpa [partsB] using h3
  · intro h6 h9
    simp [namesB, h6, h9] at h2
    exact h2
  · intro h
    unfold partsB at h3
    rw [if_neg (by omega), if_neg (by omega), if_neg (by omega), if_neg (by omega), if_neg (by omega)] at h3
    simpa using h3
theorem wr_tree (N : Nat) : N ≤ 100000 → ∀ (e : Et), e.size ≤ N → e.right num = true → e.fine → TC e := by
  induction N with
  | zero => intro _ e he; cases e; simp [Et.size] at he
  | succ N IH =>
    intro hN e he hr hf
    obtain ⟨k, t, ns, a⟩ := e
    have hsz : Et.sizes a ≤ N := by simp only [Et.size] at he; omega
    have hl := length_esizes a
    obtain ⟨hk, hra, h9, h10, -, -, -, -, -, -⟩ := kind_of_right hr
    rw [fine_mk] at hf
    obtain ⟨hf1, hf2, hf3, hf4⟩ := hf
    have ih : ∀ e ∈ a, TC e := by
      intro e hm
      obtain ⟨j, hj, rfl⟩ := List.getElem_of_mem hm
      exact IH (by omega) _ (by have := esize_get a j hj; omega) ((rights_all a).1 hra _ hm) (hf4 _ hm)
    have hl5 : a.length ≤ 100000 := by omega
    rcases hk with rfl | rfl | rfl | rfl | rfl | rfl | rfl | rfl | rfl | rfl
    · exact term1 t ns a ih hl5 hf2
    · exact term2 t ns a ih hl5 hf2
    · exact term3 t ns a ih hl5 hf2
    · exact term4 t ns a ih hl5 hf2
    · exact term5 t ns a ih hl5 hf2
    · exact term6 t ns a ih hl5 hf2
    · exact term7 t ns a ih hl5 hf2
    · exact term8 t ns a ih hl5 hf2
    · exact term9 t ns a ih hl5 hf2 (h9 rfl).1 (fun s hs => isEmpty_ne ((h9 rfl).2.1 s hs))
    · refine term10 t ns a ih hl5 hf2 (isEmpty_ne ?_)
      rintro rfl
      have := h10 rfl
      rw [arity_none] at this
      omega
/-- Its length, by its size. -/
theorem jn_le : ∀ (ns : List ByteArray), (∀ s ∈ ns, s.size ≤ 100) → (jn ns).length ≤ 101 * ns.length
  | [], _ => by simp [jn]
  | [s], h => by have := h s (by simp); have h2 := Lib.size_eq s; simp [jn]; omega
  | s :: s2 :: l, h => by
    have h1 := h s (by simp)
    have h2 := Lib.size_eq s
    have h3 := jn_le (s2 :: l) (fun x hx => h x (by simp at hx ⊢; right; exact hx))
    simp only [jn, List.length_append, List.length_cons] at h3 ⊢; omega
mutual
theorem wr_le : ∀ (e : Et), e.fine → e.wr.length + 1 ≤ 30000 * e.size
  | .mk k t ns a, h => by
    have h0 := h
    rw [fine_mk] at h
    obtain ⟨h1, h2, h3, h4⟩ := h
    have h5 := wrs_le a ((fines_all a).2 h4) true
    have h6 := wrs_le a ((fines_all a).2 h4) false
    have h7 := wrbl_le ns a h3 ((fines_all a).2 h4) false
    have h9 := jn_le ns h3
    have h10 := Lib.size_eq t
    rw [wr_mk]
    simp only [Et.size]
    split
    · simp; omega
    · split
      · simp; omega
      · split
        · simp; omega
        · split
          · simp; omega
          · split
            · simp; omega
            · split
              · simp; omega
              · split
                · simp; omega
                · omega
theorem wrs_le : ∀ (l : List Et), Et.fines l → ∀ (b : Bool), (Et.wrs b l).length ≤ 30000 * Et.sizes l
  | [], _, b => by simp [Et.wrs, Et.sizes]
  | e :: l, h, b => by
    have h0 := h
    unfold Et.fines at h0
    have h1 := wr_le e h0.1
    have h2 := wrs_le l h0.2 true
    simp only [Et.wrs, Et.sizes, List.length_append]
    split <;> simp <;> omega
theorem wrbl_le : ∀ (ns : List ByteArray) (l : List Et), (∀ s ∈ ns, s.size ≤ 100) → Et.fines l → ∀ (b : Bool), (Et.wrb b ns l).length + (Et.wrl ns l).length ≤ 104 * ns.length + 30000 * Et.sizes l
  | [], [], _, _, b => by simp [Et.wrb, Et.wrl]
  | [], e :: l, hs, h, b => by
    have h0 := h
    unfold Et.fines at h0
    have h1 := wr_le e h0.1
    have h2 := wrbl_le [] l hs h0.2 true
    have e1 : Et.wrb b [] (e :: l) = [] := by unfold Et.wrb; rfl
    have e2 : Et.wrb true [] l = [] := by cases l <;> (unfold Et.wrb; rfl)
    rw [e2] at h2
    rw [e1]
    simp only [Et.wrl, Et.sizes, List.length_append, List.length_cons, List.length_nil] at h2 ⊢; omega
  | s :: ns, [], _, _, b => by simp [Et.wrb, Et.wrl]
  | s :: ns, e :: l, hs, h, b => by
    have h0 := h
    unfold Et.fines at h0
    have h1 := wr_le e h0.1
    have h2 := wrbl_le ns l (fun x hx => hs x (by simp [hx])) h0.2 true
    have h3 := hs s (by simp)
    have h4 := Lib.size_eq s
    simp only [Et.wrb, Et.wrl, Et.sizes, List.length_append, List.length_cons]
    split <;> simp <;> omega
end
set_option maxHeartbeats 4000000 in
set_option maxRecDepth 100000 in
theorem text_any (e : Et) (hr : e.right num = true) (hf : e.fine) (hs : e.size ≤ 10000) (S : Nat → Prop) (cs : Array Value) (w : World) (hat : Et.At S w e cs) : Calls Try.prog 19 #[.agg cs] w (RetStr ⟨e.wr.toArray⟩ w) := by
  obtain ⟨k, t, nv, av, rfl, o1, o2⟩ := EAt_form hat
  have z0 : (#[.int .i64 k, .string t, nv, av] : Array Value).all (·.oneCell') = true := by simp [Value.oneCell'] at o1 o2 ⊢; exact ⟨o1, o2⟩
  have hle := wr_le e hf
  have K0 := Lib.hid ((Below.refl w.heap.size w).alloc (Nat.le_refl _) (.cells #[.int .i64 k, .string t, nv, av] 28))
  have K2 := Lib.hid (alloc_at w (.cells #[.int .i64 k, .string t, nv, av] 28))
  have K3 : (w.alloc (.cells #[.int .i64 k, .string t, nv, av] 28)).heap.size = w.heap.size + 1 := by simp
  have HA := Lib.hid (Et.At.keeps (Keeps.of_below K0.out) _ _ hat)
  have HTC := Lib.hid (wr_tree e.size (by omega) e (Nat.le_refl _) hr hf)
  clear hat
  go_enter Try.func19, Try.ntmps19
  go_upto_region 1 with fail
  generalize w.alloc (.cells #[.int .i64 k, .string t, nv, av] 28) = W at K0 K2 K3 HA ⊢
  have F0 := Lib.hid (Wr.fresh W)
  have A2 := (Below.refl W.heap.size W).alloc (Nat.le_refl _) (.cells #[.pointer none, .slice none 0 0] 63)
  have F1 := Lib.hid (row_below A2 K2.out)
  have F2 := Lib.hid ((K0.out).alloc (by omega) (.cells #[.pointer none, .slice none 0 0] 63))
  have HA2 := Lib.hid (Et.At.keeps (Keeps.of_below A2) _ _ HA.out)
  have F3 : W.heap.size ≤ (W.alloc (.cells #[.pointer none, .slice none 0 0] 63)).heap.size := by simp
  clear A2
  go_upto_region 2 with fail
  generalize W.alloc (.cells #[.pointer none, .slice none 0 0] 63) = W2 at F0 F1 F2 F3 HA2 ⊢
  rw [K3] at F0 F3
  have HT := Lib.hid (HTC.out (w.heap.size + 1) (w.heap.size + 1) [] S _ W2 HA2.out F0.out (by simp; omega) F3)
  clear K3
  obtain ⟨gs, hgs⟩ : ∃ gs, gs = w.heap.size := ⟨_, rfl⟩
  rw [← hgs] at F1 HT F0 F3
  simp only [← hgs]
  have HGS := Lib.hid hgs
  clear hgs
  go_wp2_with (refine wpList_load_row rfl 28 _ rfl gs rfl 28 #[.int .i64 k, .string t, nv, av] (0, 0) _ F1.out Try.underlying28 rfl info28 ?_)
  refine HT.out.mono ?_
  rintro e' w3 ⟨rfl, hW, hF⟩
  have G0 := Lib.hid hW
  have G1 := Lib.hid (F2.out.trans (hF.1.mono (by have := HGS.out; omega)))
  have G2 : gs + 1 ≤ w3.heap.size := by have := hF.1.size; omega
  clear hW hF HT
  have HX := Lib.hid (text_of (gs + 1) (gs + 1) ([] ++ e.wr) w3 G0.out G2)
  go_wp2_with fail
  refine HX.out.mono ?_
  rintro e' w4 ⟨rfl, hb⟩
  have G3 := Lib.hid (G1.out.trans (hb.mono (by have := HGS.out; omega)))
  clear hb
  go_wp2_with fail
  go_ret
  exact ⟨rfl, G3.out⟩
end Go.Proofs.Ytcalbcllmmoldaa
