/- The walk of NormStays. -/
import Derived.Test.YtmcgocbkjdacaaaDoorNK
import Derived.Test.YtmcgocbkjdacaaaDoorTM4
namespace Go.Proofs.YtmcgocbkjdacaaaDoor
open Go.RowKit Go.BigM
set_option linter.unusedVariables false
set_option linter.unusedSimpArgs false
theorem same_is (e : Et) : Et.same (e.nrm 0).2 e = e.is := by
  have h := nrm_f e 0
  cases hi : e.is with
  | true => rw [(h.stays hi).1]; exact (same_iff _ _).2 rfl
  | false =>
    cases hs : Et.same (e.nrm 0).2 e with
    | false => rfl
    | true =>
      have h1 := (same_iff _ _).1 hs
      have h2 := h.is
      rw [h1, hi] at h2; cases h2
theorem same_again (e : Et) : Et.same ((e.nrm 0).2.nrm 0).2 (e.nrm 0).2 = true := by
  have h := nrm_f e 0
  exact (same_iff _ _).2 ((nrm_f (e.nrm 0).2 0).stays h.is).1
set_option maxHeartbeats 8000000 in
set_option maxRecDepth 100000 in
theorem stays_walk (l : List Rw) (ao0 : Option Addr) (cap : Nat) (w : World) (hR : RsAt w ao0 l) (ht : Tab w) : Calls Tryd.prog 5 #[.slice ao0 l.length cap] w (RetBool true w) := by
  have K0 := Lib.hid (known_any w ht)
  have HR := Lib.hid hR
  have HT := Lib.hid ht
  clear hR ht
  go_enter Tryd.func5, Tryd.ntmps5
  go_wp2_with fail
  refine K0.out.mono ?_
  rintro e w1 ⟨rfl, hb1⟩
  have HR1 := Lib.hid (HR.out.below hb1)
  have HB1 := Lib.hid hb1
  replace HT := Lib.hid (HT.out.below hb1)
  have HFE := Lib.hid (few_any l ao0 cap w1 HR1.out)
  clear hb1 K0
  go_wp2_with fail
  refine HFE.out.mono ?_
  rintro e w2 ⟨r, rfl, hr, rfl⟩
  cases r with
  | false =>
    go_wp2_with fail
    go_ret
    exact ⟨rfl, HB1.out⟩
  | true =>
    have HTM := Lib.hid (term_any l ao0 cap w1 HR1.out (hr rfl))
    clear hr HFE
    go_upto_region 5 with fail
    go_wp2_with fail
    refine HTM.out.mono ?_
    rintro e w5 ⟨cs, e, m', rfl, hat, hM, hsz, hm', hb5⟩
    obtain ⟨k0, t0, no0, nn0, nc0, ao1, an0, ac0, rfl⟩ := EAt_sl hat
    have z0 : (#[.int .i64 k0, .string t0, .slice no0 nn0 nc0, .slice ao1 an0 ac0] : Array Value).all (·.oneCell') = true := by simp [Value.oneCell']
    have hb5w : Below w.heap.size w w5 := HB1.out.trans (hb5.mono HB1.out.size)
    have A6 := (Below.refl w5.heap.size w5).alloc (Nat.le_refl _) (.cells #[.int .i64 k0, .string t0, .slice no0 nn0 nc0, .slice ao1 an0 ac0] 28)
    have HB6 := Lib.hid (hb5w.trans (A6.mono hb5w.size))
    have HAT := Lib.hid (Et.At.mono (T := fun _ => True) (fun _ _ => trivial) _ _ (Et.At.keeps (Keeps.of_below A6) _ _ hat))
    have HE0 : Hid (EB (w5.alloc (.cells #[.int .i64 k0, .string t0, .slice no0 nn0 nc0, .slice ao1 an0 ac0] 28)) w5.heap.size k0 t0 (.slice no0 nn0 nc0) (.slice ao1 an0 ac0)) := alloc_at _ _
    have HM := Lib.hid hM
    have HT6 := Lib.hid ((HT.out.below hb5).below A6)
    have hth := thick_lt e
    have hts : e.thick ≤ 400 := by omega
    clear hat hM hb5 hb5w A6 HTM HT hth
    go_upto_region 6 with (refine wpList_store_row rfl 28 _ _ rfl w5.heap.size #[.int .i64 k0, .string t0, .slice no0 nn0 nc0, .slice ao1 an0 ac0] rfl rfl 28 Z4 (alloc_at _ _) info28 rfl z0 ?_)
    try simp only [Act.put]
    have EE : (w5.alloc (.cells #[.int .i64 0, .string ⟨#[]⟩, .slice none 0 0, .slice none 0 0] 28)).setRow w5.heap.size #[.int .i64 k0, .string t0, .slice no0 nn0 nc0, .slice ao1 an0 ac0] = w5.alloc (.cells #[.int .i64 k0, .string t0, .slice no0 nn0 nc0, .slice ao1 an0 ac0] 28) := setRow_new _ _ _ _
    try rw [EE]
    clear EE
    generalize w5.alloc (.cells #[.int .i64 k0, .string t0, .slice no0 nn0 nc0, .slice ao1 an0 ac0] 28) = W6 at HB6 HAT HE0 HT6 ⊢
    generalize w5.heap.size = ge at HE0 ⊢
    have HN := Lib.hid (norm_any e HM.out.fine (by omega) (by omega) _ _ W6 HAT.out HT6.out)
    go_wp2_with (refine wpList_load_row rfl 28 _ rfl ge rfl 28 #[.int .i64 k0, .string t0, .slice no0 nn0 nc0, .slice ao1 an0 ac0] (0, 0) _ HE0.out Tryd.underlying28 rfl info28 ?_)
    refine HN.out.mono ?_
    rintro r w7 ⟨cs, rfl, hat7, hb7⟩
    obtain ⟨k1, t1, no1, nn1, nc1, ao2, an1, ac1, rfl⟩ := EAt_sl hat7
    have z1 : (#[.int .i64 k1, .string t1, .slice no1 nn1 nc1, .slice ao2 an1 ac1] : Array Value).all (·.oneCell') = true := by simp [Value.oneCell']
    have A8 := (Below.refl w7.heap.size w7).alloc (Nat.le_refl _) (.cells #[.int .i64 k1, .string t1, .slice no1 nn1 nc1, .slice ao2 an1 ac1] 28)
    have hb8 : Below W6.heap.size W6 (w7.alloc (.cells #[.int .i64 k1, .string t1, .slice no1 nn1 nc1, .slice ao2 an1 ac1] 28)) := hb7.trans (A8.mono hb7.size)
    have HB8 := Lib.hid (HB6.out.trans (hb8.mono HB6.out.size))
    have HAX := Lib.hid (Et.At.mono (T := fun _ => True) (fun _ _ => trivial) _ _ (Et.At.keeps (Keeps.of_below A8) _ _ hat7))
    replace HAT := Lib.hid (Et.At.keeps (Keeps.of_below hb8) _ _ HAT.out)
    have HX0 : Hid (EB (w7.alloc (.cells #[.int .i64 k1, .string t1, .slice no1 nn1 nc1, .slice ao2 an1 ac1] 28)) w7.heap.size k1 t1 (.slice no1 nn1 nc1) (.slice ao2 an1 ac1)) := alloc_at _ _
    replace HE0 : Hid (EB (w7.alloc (.cells #[.int .i64 k1, .string t1, .slice no1 nn1 nc1, .slice ao2 an1 ac1] 28)) ge k0 t0 (.slice no0 nn0 nc0) (.slice ao1 an0 ac0)) := row_below hb8 HE0.out
    have HT8 := Lib.hid (HT6.out.below hb8)
    have hxs := (nrm_f e 0).size
    have HXF := Lib.hid (nrm_fine e HM.out.fine 0 (by omega))
    have HNF := Lib.hid (nrm_f e 0)
    obtain ⟨x, hx⟩ : ∃ x, x = (e.nrm 0).2 := ⟨_, rfl⟩
    rw [← hx] at HAX hxs HXF
    have HXD := Lib.hid hx
    clear hat7 hb7 A8 hb8 HN HT6 HB6 hx
    go_upto_region 7 with (refine wpList_store_row rfl 28 _ _ rfl w7.heap.size #[.int .i64 k1, .string t1, .slice no1 nn1 nc1, .slice ao2 an1 ac1] rfl rfl 28 Z4 (alloc_at _ _) info28 rfl z1 ?_)
    try simp only [Act.put]
    have EE : (w7.alloc (.cells #[.int .i64 0, .string ⟨#[]⟩, .slice none 0 0, .slice none 0 0] 28)).setRow w7.heap.size #[.int .i64 k1, .string t1, .slice no1 nn1 nc1, .slice ao2 an1 ac1] = w7.alloc (.cells #[.int .i64 k1, .string t1, .slice no1 nn1 nc1, .slice ao2 an1 ac1] 28) := setRow_new _ _ _ _
    try rw [EE]
    clear EE
    generalize w7.alloc (.cells #[.int .i64 k1, .string t1, .slice no1 nn1 nc1, .slice ao2 an1 ac1] 28) = W8 at HB8 HAX HAT HX0 HE0 HT8 ⊢
    generalize w7.heap.size = gx at HX0 ⊢
    have HCE : Hid (∀ w', Below W8.heap.size W8 w' → w'.cell? ⟨ge, 0, none⟩ = some (.int .i64 k0) ∧ w'.cell? ⟨ge, 1, none⟩ = some (.string t0) ∧ w'.cell? ⟨ge, 2, none⟩ = some (.slice no0 nn0 nc0) ∧ w'.cell? ⟨ge, 3, none⟩ = some (.slice ao1 an0 ac0)) := fun w' hw' => EB.cell w' ge _ _ _ _ (row_below hw' HE0.out)
    have HCX : Hid (∀ w', Below W8.heap.size W8 w' → w'.cell? ⟨gx, 0, none⟩ = some (.int .i64 k1) ∧ w'.cell? ⟨gx, 1, none⟩ = some (.string t1) ∧ w'.cell? ⟨gx, 2, none⟩ = some (.slice no1 nn1 nc1) ∧ w'.cell? ⟨gx, 3, none⟩ = some (.slice ao2 an1 ac1)) := fun w' hw' => EB.cell w' gx _ _ _ _ (row_below hw' HX0.out)
    have hxt := thick_lt x
    have HNX : Hid (∀ w', Below W8.heap.size W8 w' → Calls Tryd.prog 16 #[.agg #[.int .i64 k1, .string t1, .slice no1 nn1 nc1, .slice ao2 an1 ac1]] w' (RetN x w')) := fun w' hw' => norm_any x HXF.out (by omega) (by omega) _ _ w' (Et.At.keeps (Keeps.of_below hw') _ _ HAX.out) (HT8.out.below hw')
    have HIE : Hid (∀ w', Below W8.heap.size W8 w' → Calls Tryd.prog 13 #[.agg #[.int .i64 k0, .string t0, .slice no0 nn0 nc0, .slice ao1 an0 ac0]] w' (RetBool e.is w')) := fun w' hw' => is_any e HM.out.fine (by omega) _ _ w' (Et.At.keeps (Keeps.of_below hw') _ _ HAT.out)
    have HSX : Hid (∀ w', Below W8.heap.size W8 w' → Calls Tryd.prog 15 #[.agg #[.int .i64 k1, .string t1, .slice no1 nn1 nc1, .slice ao2 an1 ac1], .agg #[.int .i64 k0, .string t0, .slice no0 nn0 nc0, .slice ao1 an0 ac0]] w' (RetBool e.is w')) := fun w' hw' => by
      have h := same_any x e (by omega) HXF.out HM.out.fine _ _ _ _ w' (Et.At.keeps (Keeps.of_below hw') _ _ HAX.out) (Et.At.keeps (Keeps.of_below hw') _ _ HAT.out)
      rw [HXD.out, same_is] at h; exact h
    obtain ⟨b, hb⟩ : ∃ b, e.is = b := ⟨_, rfl⟩
    rw [hb] at HIE HSX
    have HXF2 := Lib.hid (nrm_fine x HXF.out 0 (by omega))
    have hx2 := (nrm_f x 0).size
    clear hb
    have HS0 : Hid (Below W8.heap.size W8 W8.drew) := (Below.refl _ _).drew
    refine wp_region_noPanic ?_
    refine wp_region_held_drew (S := Below W8.heap.size W8) (by kernel_rfl) HS0.out (fun hHeld => ?_)
    generalize W8.drew = X at HS0 hHeld ⊢
    refine wpAnyH_take (i := 0) (v := Value.agg #[.int .i64 k1, .string t1, .slice no1 nn1 nc1, .slice ao2 an1 ac1]) rfl (by kernel_rfl) (by kernel_rfl) (by kernel_rfl) (fun _ _ _ h => h) (Or.inl ⟨rfl, fun w' hw' => ?_⟩) hHeld ?_
    · obtain ⟨d0, d1, d2, d3⟩ := HCX.out w' hw'; go_simp
    simp only [List.getElem_toArray, List.getElem_cons_succ, List.getElem_cons_zero, Act.put, List.setIfInBounds_toArray, List.set_cons_zero, List.set_cons_succ]
    refine wpAnyH_take (i := 2) (v := Value.agg #[.int .i64 k1, .string t1, .slice no1 nn1 nc1, .slice ao2 an1 ac1]) rfl (by kernel_rfl) (by kernel_rfl) (by kernel_rfl) (fun _ _ _ h => h) (Or.inl ⟨rfl, fun w' hw' => ?_⟩) hHeld ?_
    · obtain ⟨d0, d1, d2, d3⟩ := HCX.out w' hw'; go_simp
    simp only [List.getElem_toArray, List.getElem_cons_succ, List.getElem_cons_zero, Act.put, List.setIfInBounds_toArray, List.set_cons_zero, List.set_cons_succ]
    refine wpAnyH_ready (rs := [1]) (by kernel_rfl) (by simp) ?_
    refine (AllReadyH.cons rfl (fun K hK => ?_) AllReadyH.nil)
    go_simp
    refine (HNX.out _ HS0.out).mono ?_
    rintro r u1 ⟨csq, rfl, hatq, hbq⟩
    have HS1 : Hid (Below W8.heap.size W8 u1) := HS0.out.trans (hbq.mono HS0.out.size)
    obtain ⟨k8, t8, no8, nn8, nc8, ao8, an8, ac8, rfl⟩ := EAt_sl hatq
    have HSM := Lib.hid (same_any (x.nrm 0).2 x (by omega) HXF2.out HXF.out _ _ _ _ u1 hatq (Et.At.keeps (Keeps.of_below HS1.out) _ _ HAX.out))
    have hss : Et.same (x.nrm 0).2 x = true := by rw [HXD.out]; exact same_again e
    rw [hss] at HSM
    clear hatq hss
    clear hbq
    refine hK.out _ _ HS1.out (fun hHeld => ?_)
    clear hK K
    try simp only [List.getElem_toArray, List.getElem_cons_succ, List.getElem_cons_zero, Act.put, List.setIfInBounds_toArray, List.set_cons_zero, List.set_cons_succ]
    refine wpAnyH_ready (rs := [3]) (by kernel_rfl) (by simp) ?_
    refine (AllReadyH.cons rfl (fun K hK => ?_) AllReadyH.nil)
    go_simp
    refine (HSM.out).mono ?_
    rintro r u3 ⟨rfl, hbq⟩
    have HS3 : Hid (Below W8.heap.size W8 u3) := HS1.out.trans (hbq.mono HS1.out.size)
    clear hbq
    refine hK.out _ _ HS3.out (fun hHeld => ?_)
    clear hK K
    try simp only [List.getElem_toArray, List.getElem_cons_succ, List.getElem_cons_zero, Act.put, List.setIfInBounds_toArray, List.set_cons_zero, List.set_cons_succ]
    refine wpAnyH_take (i := 4) (v := Value.bool true) rfl (by kernel_rfl) (by kernel_rfl) (by kernel_rfl) (fun _ _ _ h => h) (Or.inl ⟨rfl, fun w' hw' => ?_⟩) hHeld ?_
    · go_simp
    simp only [List.getElem_toArray, List.getElem_cons_succ, List.getElem_cons_zero, Act.put, List.setIfInBounds_toArray, List.set_cons_zero, List.set_cons_succ]
    refine wpAnyH_take (i := 5) (v := Value.agg #[.int .i64 k0, .string t0, .slice no0 nn0 nc0, .slice ao1 an0 ac0]) rfl (by kernel_rfl) (by kernel_rfl) (by kernel_rfl) (fun _ _ _ h => h) (Or.inl ⟨rfl, fun w' hw' => ?_⟩) hHeld ?_
    · obtain ⟨d0, d1, d2, d3⟩ := HCE.out w' hw'; go_simp
    simp only [List.getElem_toArray, List.getElem_cons_succ, List.getElem_cons_zero, Act.put, List.setIfInBounds_toArray, List.set_cons_zero, List.set_cons_succ]
    refine wpAnyH_take (i := 7) (v := Value.agg #[.int .i64 k1, .string t1, .slice no1 nn1 nc1, .slice ao2 an1 ac1]) rfl (by kernel_rfl) (by kernel_rfl) (by kernel_rfl) (fun _ _ _ h => h) (Or.inl ⟨rfl, fun w' hw' => ?_⟩) hHeld ?_
    · obtain ⟨d0, d1, d2, d3⟩ := HCX.out w' hw'; go_simp
    simp only [List.getElem_toArray, List.getElem_cons_succ, List.getElem_cons_zero, Act.put, List.setIfInBounds_toArray, List.set_cons_zero, List.set_cons_succ]
    refine wpAnyH_take (i := 8) (v := Value.agg #[.int .i64 k0, .string t0, .slice no0 nn0 nc0, .slice ao1 an0 ac0]) rfl (by kernel_rfl) (by kernel_rfl) (by kernel_rfl) (fun _ _ _ h => h) (Or.inl ⟨rfl, fun w' hw' => ?_⟩) hHeld ?_
    · obtain ⟨d0, d1, d2, d3⟩ := HCE.out w' hw'; go_simp
    simp only [List.getElem_toArray, List.getElem_cons_succ, List.getElem_cons_zero, Act.put, List.setIfInBounds_toArray, List.set_cons_zero, List.set_cons_succ]
    refine wpAnyH_ready (rs := [6]) (by kernel_rfl) (by simp) ?_
    refine (AllReadyH.cons rfl (fun K hK => ?_) AllReadyH.nil)
    go_simp
    refine (HIE.out _ HS3.out).mono ?_
    rintro r u6 ⟨rfl, hbq⟩
    have HS6 : Hid (Below W8.heap.size W8 u6) := HS3.out.trans (hbq.mono HS3.out.size)
    clear hbq
    refine hK.out _ _ HS6.out (fun hHeld => ?_)
    clear hK K
    try simp only [List.getElem_toArray, List.getElem_cons_succ, List.getElem_cons_zero, Act.put, List.setIfInBounds_toArray, List.set_cons_zero, List.set_cons_succ]
    refine wpAnyH_ready (rs := [9]) (by kernel_rfl) (by simp) ?_
    refine (AllReadyH.cons rfl (fun K hK => ?_) AllReadyH.nil)
    go_simp
    refine (HSX.out _ HS6.out).mono ?_
    rintro r u9 ⟨rfl, hbq⟩
    have HS9 : Hid (Below W8.heap.size W8 u9) := HS6.out.trans (hbq.mono HS6.out.size)
    clear hbq
    refine hK.out _ _ HS9.out (fun hHeld => ?_)
    clear hK K
    try simp only [List.getElem_toArray, List.getElem_cons_succ, List.getElem_cons_zero, Act.put, List.setIfInBounds_toArray, List.set_cons_zero, List.set_cons_succ]
    refine wpAnyH_take (i := 10) (v := Value.bool true) rfl (by kernel_rfl) (by kernel_rfl) (by kernel_rfl) (fun _ _ _ h => h) (Or.inl ⟨rfl, fun w' hw' => ?_⟩) hHeld ?_
    · go_simp
    simp only [List.getElem_toArray, List.getElem_cons_succ, List.getElem_cons_zero, Act.put, List.setIfInBounds_toArray, List.set_cons_zero, List.set_cons_succ]
    refine wpAnyH_take (i := 11) (v := Value.bool true) rfl (by kernel_rfl) (by kernel_rfl) (by kernel_rfl) (fun _ _ _ h => h) (Or.inl ⟨rfl, fun w' hw' => ?_⟩) hHeld ?_
    · go_simp
    simp only [List.getElem_toArray, List.getElem_cons_succ, List.getElem_cons_zero, Act.put, List.setIfInBounds_toArray, List.set_cons_zero, List.set_cons_succ]
    refine wpAnyH_take (i := 12) (v := Value.bool true) rfl (by kernel_rfl) (by kernel_rfl) (by kernel_rfl) (fun _ _ _ h => h) (Or.inl ⟨rfl, fun w' hw' => ?_⟩) hHeld ?_
    · go_simp
    simp only [List.getElem_toArray, List.getElem_cons_succ, List.getElem_cons_zero, Act.put, List.setIfInBounds_toArray, List.set_cons_zero, List.set_cons_succ]
    refine wpAnyH_done (by kernel_rfl) ?_ _
    refine NoPanic.normal ?_
    clear hHeld
    have HD := Lib.hid (HB8.out.trans (HS9.out.mono HB8.out.size))
    go_wp2_with fail
    go_ret
    exact ⟨rfl, HD.out⟩
end Go.Proofs.YtmcgocbkjdacaaaDoor
