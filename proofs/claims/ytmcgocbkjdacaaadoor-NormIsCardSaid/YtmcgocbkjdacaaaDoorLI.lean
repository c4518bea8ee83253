/- The walk of NormIs. -/
import Derived.Test.YtmcgocbkjdacaaaDoorNK
import Derived.Test.YtmcgocbkjdacaaaDoorTM4
import Derived.Test.YtmcgocbkjdacaaaDoorNBd
import Derived.Test.YtmcgocbkjdacaaaDoorS1
import Derived.Test.YtmcgocbkjdacaaaDoorFR6
import Derived.Test.YtmcgocbkjdacaaaDoorR4
namespace Go.Proofs.YtmcgocbkjdacaaaDoor
open Go.RowKit Go.BigM
set_option linter.unusedVariables false
set_option linter.unusedSimpArgs false
set_option maxHeartbeats 8000000 in
set_option maxRecDepth 100000 in
theorem is_walk (l : List Rw) (ao0 : Option Addr) (cap : Nat) (w : World) (hR : RsAt w ao0 l) (ht : Tab w) : Calls Tryd.prog 4 #[.slice ao0 l.length cap] w (RetBool true w) := by
  have K0 := Lib.hid (known_any w ht)
  have HR := Lib.hid hR
  have HT := Lib.hid ht
  clear hR ht
  go_enter Tryd.func4, Tryd.ntmps4
  go_wp2_with fail
  refine K0.out.mono ?_
  rintro e w1 ⟨rfl, hb1⟩
  have HR1 := Lib.hid (HR.out.below hb1)
  have HB1 := Lib.hid hb1
  replace HT := Lib.hid (HT.out.below hb1)
  have HFE := Lib.hid (few_any l ao0 cap w1 HR1.out)
  clear hb1 K0
  go_wp2_with fail
  refine HFE.out.mono ?_
  rintro e w2 ⟨r, rfl, hr, rfl⟩
  cases r with
  | false =>
    go_wp2_with fail
    go_ret
    exact ⟨rfl, HB1.out⟩
  | true =>
    have HTM := Lib.hid (term_any l ao0 cap w1 HR1.out (hr rfl))
    clear hr HFE
    go_upto_region 5 with fail
    go_wp2_with fail
    refine HTM.out.mono ?_
    rintro e w5 ⟨cs, e, m', rfl, hat, hM, hsz, hm', hb5⟩
    obtain ⟨k0, t0, no0, nn0, nc0, ao1, an0, ac0, rfl⟩ := EAt_sl hat
    have z0 : (#[.int .i64 k0, .string t0, .slice no0 nn0 nc0, .slice ao1 an0 ac0] : Array Value).all (·.oneCell') = true := by simp [Value.oneCell']
    have hb5w : Below w.heap.size w w5 := HB1.out.trans (hb5.mono HB1.out.size)
    have A6 := (Below.refl w5.heap.size w5).alloc (Nat.le_refl _) (.cells #[.int .i64 k0, .string t0, .slice no0 nn0 nc0, .slice ao1 an0 ac0] 28)
    have HB6 := Lib.hid (hb5w.trans (A6.mono hb5w.size))
    have HAT := Lib.hid (Et.At.mono (T := fun _ => True) (fun _ _ => trivial) _ _ (Et.At.keeps (Keeps.of_below A6) _ _ hat))
    have HE0 : Hid (EB (w5.alloc (.cells #[.int .i64 k0, .string t0, .slice no0 nn0 nc0, .slice ao1 an0 ac0] 28)) w5.heap.size k0 t0 (.slice no0 nn0 nc0) (.slice ao1 an0 ac0)) := alloc_at _ _
    have HM := Lib.hid hM
    have HT6 := Lib.hid ((HT.out.below hb5).below A6)
    have hth := thick_lt e
    have hts : e.thick ≤ 400 := by omega
    clear hat hM hb5 hb5w A6 HTM HT hth
    go_upto_region 6 with (refine wpList_store_row rfl 28 _ _ rfl w5.heap.size #[.int .i64 k0, .string t0, .slice no0 nn0 nc0, .slice ao1 an0 ac0] rfl rfl 28 Z4 (alloc_at _ _) info28 rfl z0 ?_)
    try simp only [Act.put]
    have EE : (w5.alloc (.cells #[.int .i64 0, .string ⟨#[]⟩, .slice none 0 0, .slice none 0 0] 28)).setRow w5.heap.size #[.int .i64 k0, .string t0, .slice no0 nn0 nc0, .slice ao1 an0 ac0] = w5.alloc (.cells #[.int .i64 k0, .string t0, .slice no0 nn0 nc0, .slice ao1 an0 ac0] 28) := setRow_new _ _ _ _
    try rw [EE]
    clear EE
    generalize w5.alloc (.cells #[.int .i64 k0, .string t0, .slice no0 nn0 nc0, .slice ao1 an0 ac0] 28) = W6 at HB6 HAT HE0 HT6 ⊢
    generalize w5.heap.size = ge at HE0 ⊢
    have HN := Lib.hid (norm_any e HM.out.fine (by omega) (by omega) _ _ W6 HAT.out HT6.out)
    go_wp2_with (refine wpList_load_row rfl 28 _ rfl ge rfl 28 #[.int .i64 k0, .string t0, .slice no0 nn0 nc0, .slice ao1 an0 ac0] (0, 0) _ HE0.out Tryd.underlying28 rfl info28 ?_)
    refine HN.out.mono ?_
    rintro r w7 ⟨cs, rfl, hat7, hb7⟩
    obtain ⟨k1, t1, no1, nn1, nc1, ao2, an1, ac1, rfl⟩ := EAt_sl hat7
    have z1 : (#[.int .i64 k1, .string t1, .slice no1 nn1 nc1, .slice ao2 an1 ac1] : Array Value).all (·.oneCell') = true := by simp [Value.oneCell']
    have A8 := (Below.refl w7.heap.size w7).alloc (Nat.le_refl _) (.cells #[.int .i64 k1, .string t1, .slice no1 nn1 nc1, .slice ao2 an1 ac1] 28)
    have hb8 : Below W6.heap.size W6 (w7.alloc (.cells #[.int .i64 k1, .string t1, .slice no1 nn1 nc1, .slice ao2 an1 ac1] 28)) := hb7.trans (A8.mono hb7.size)
    have HB8 := Lib.hid (HB6.out.trans (hb8.mono HB6.out.size))
    have HAX := Lib.hid (Et.At.mono (T := fun _ => True) (fun _ _ => trivial) _ _ (Et.At.keeps (Keeps.of_below A8) _ _ hat7))
    replace HAT := Lib.hid (Et.At.keeps (Keeps.of_below hb8) _ _ HAT.out)
    have HX0 : Hid (EB (w7.alloc (.cells #[.int .i64 k1, .string t1, .slice no1 nn1 nc1, .slice ao2 an1 ac1] 28)) w7.heap.size k1 t1 (.slice no1 nn1 nc1) (.slice ao2 an1 ac1)) := alloc_at _ _
    replace HE0 : Hid (EB (w7.alloc (.cells #[.int .i64 k1, .string t1, .slice no1 nn1 nc1, .slice ao2 an1 ac1] 28)) ge k0 t0 (.slice no0 nn0 nc0) (.slice ao1 an0 ac0)) := row_below hb8 HE0.out
    have HT8 := Lib.hid (HT6.out.below hb8)
    have hxs := (nrm_f e 0).size
    have HXF := Lib.hid (nrm_fine e HM.out.fine 0 (by omega))
    have HNF := Lib.hid (nrm_f e 0)
    obtain ⟨x, hx⟩ : ∃ x, x = (e.nrm 0).2 := ⟨_, rfl⟩
    rw [← hx] at HAX hxs HXF
    have HXD := Lib.hid hx
    clear hat7 hb7 A8 hb8 HN HT6 HB6 hx
    go_upto_region 7 with (refine wpList_store_row rfl 28 _ _ rfl w7.heap.size #[.int .i64 k1, .string t1, .slice no1 nn1 nc1, .slice ao2 an1 ac1] rfl rfl 28 Z4 (alloc_at _ _) info28 rfl z1 ?_)
    try simp only [Act.put]
    have EE : (w7.alloc (.cells #[.int .i64 0, .string ⟨#[]⟩, .slice none 0 0, .slice none 0 0] 28)).setRow w7.heap.size #[.int .i64 k1, .string t1, .slice no1 nn1 nc1, .slice ao2 an1 ac1] = w7.alloc (.cells #[.int .i64 k1, .string t1, .slice no1 nn1 nc1, .slice ao2 an1 ac1] 28) := setRow_new _ _ _ _
    try rw [EE]
    clear EE
    generalize w7.alloc (.cells #[.int .i64 k1, .string t1, .slice no1 nn1 nc1, .slice ao2 an1 ac1] 28) = W8 at HB8 HAX HAT HX0 HE0 HT8 ⊢
    generalize w7.heap.size = gx at HX0 ⊢
    have HCE : Hid (∀ w', Below W8.heap.size W8 w' → w'.cell? ⟨ge, 0, none⟩ = some (.int .i64 k0) ∧ w'.cell? ⟨ge, 1, none⟩ = some (.string t0) ∧ w'.cell? ⟨ge, 2, none⟩ = some (.slice no0 nn0 nc0) ∧ w'.cell? ⟨ge, 3, none⟩ = some (.slice ao1 an0 ac0)) := fun w' hw' => EB.cell w' ge _ _ _ _ (row_below hw' HE0.out)
    have HCX : Hid (∀ w', Below W8.heap.size W8 w' → w'.cell? ⟨gx, 0, none⟩ = some (.int .i64 k1) ∧ w'.cell? ⟨gx, 1, none⟩ = some (.string t1) ∧ w'.cell? ⟨gx, 2, none⟩ = some (.slice no1 nn1 nc1) ∧ w'.cell? ⟨gx, 3, none⟩ = some (.slice ao2 an1 ac1)) := fun w' hw' => EB.cell w' gx _ _ _ _ (row_below hw' HX0.out)
    have hbt := HM.out.bnd
    have hcn := (nrm_f e 0).cnt
    have hxl : x.bnd.length = m' + e.thick := by
      have h := (nrm_bnd e 0).length_eq
      rw [List.length_append, pns_len, hcn, hbt, nms_len] at h
      rw [HXD.out, h]; omega
    have HIX : Hid (∀ w', Below W8.heap.size W8 w' → Calls Tryd.prog 13 #[.agg #[.int .i64 k1, .string t1, .slice no1 nn1 nc1, .slice ao2 an1 ac1]] w' (RetBool true w')) := fun w' hw' => by
      have h := is_any x HXF.out (by omega) _ _ w' (Et.At.keeps (Keeps.of_below hw') _ _ HAX.out)
      have h2 : x.is = true := by rw [HXD.out]; exact (nrm_f e 0).is
      rw [h2] at h; exact h
    have hxr : x.right num = true := by rw [HXD.out]; exact nrm_right e HM.out.right 0
    have HRX : Hid (∀ w', Below W8.heap.size W8 w' → Calls Tryd.prog 19 #[.agg #[.int .i64 k1, .string t1, .slice no1 nn1 nc1, .slice ao2 an1 ac1]] w' (RetBool true w')) := fun w' hw' => by
      have h := refright_any x _ _ w' (Et.At.keeps (Keeps.of_below hw') _ _ HAX.out) (by omega) HXF.out
      rw [hxr] at h; exact h
    have hfr : ∀ s, ¬ x.fr s := fun s h => by
      rw [HXD.out] at h
      exact absurd (HM.out.free s (nrm_fr s e HM.out.right 0 h)) (by simp)
    have HFX : Hid (∀ w', Below W8.heap.size W8 w' → Calls Tryd.prog 20 #[.agg #[.int .i64 k1, .string t1, .slice no1 nn1 nc1, .slice ao2 an1 ac1]] w' (fun r w9 => (∃ ao ac, r = .returned (.slice ao 0 ac)) ∧ Below w'.heap.size w' w9)) := fun w' hw' => by
      refine (reffree_any x hxr HXF.out (by omega) _ _ w' (Et.At.keeps (Keeps.of_below hw') _ _ HAX.out)).mono ?_
      rintro r w9 ⟨v, L, rfl, h1, h2, h3, h4, h5⟩
      have hL : L = [] := List.eq_nil_iff_forall_not_mem.2 fun s hs => hfr s ((h3 s).1 hs)
      subst hL
      obtain ⟨ao, ac, rfl⟩ := h1.form
      exact ⟨⟨ao, ac, rfl⟩, h5⟩
    have HB2 : Hid (∀ w', Below W8.heap.size W8 w' → Calls Tryd.prog 22 #[.agg #[.int .i64 k1, .string t1, .slice no1 nn1 nc1, .slice ao2 an1 ac1], .slice none 0 0] w' (RetBd w'.heap.size x (.slice none 0 0) [] w')) := fun w' hw' => bound_any x HXF.out (by omega) _ _ w' w'.heap.size _ [] (Et.At.keeps (Keeps.of_below hw') _ _ HAX.out) (OwnN.nil _ _) (Nat.le_refl _) (fun x _ h => by cases h) (by rw [hxl]; simp; omega)
    have HONC : Hid (Once x.bnd) := by
      show Once _
      rw [HXD.out]; exact nrm_once hbt
    have HSS : Hid (∀ s ∈ x.bnd, s.size ≤ 100) := by
      show ∀ s ∈ x.bnd, _
      intro s hs
      rw [HXD.out] at hs
      rcases List.mem_append.1 ((nrm_bnd e 0).mem_iff.1 hs) with h | h
      · rw [hbt] at h
        exact (Good.nms (m := 0) (m' := m') (by omega) s h).2
      · obtain ⟨j, _, h2, rfl⟩ := pns_mem h
        have := pn_size j (by omega)
        omega
    have HZ1 : Hid (∀ w', Below W8.heap.size W8 w' → Calls Tryd.prog 23 #[.agg #[.int .i64 k1, .string t1, .slice no1 nn1 nc1, .slice ao2 an1 ac1]] w' (RetInt (x.size : Int) w')) := fun w' hw' => refsize_any 2000 (by decide) x (by omega) _ _ w' (Et.At.keeps (Keeps.of_below hw') _ _ HAX.out)
    have HZ2 : Hid (∀ w', Below W8.heap.size W8 w' → Calls Tryd.prog 23 #[.agg #[.int .i64 k0, .string t0, .slice no0 nn0 nc0, .slice ao1 an0 ac0]] w' (RetInt (e.size : Int) w')) := fun w' hw' => refsize_any 2000 (by decide) e (by omega) _ _ w' (Et.At.keeps (Keeps.of_below hw') _ _ HAT.out)
    obtain ⟨xb, hxb⟩ : ∃ b, b = x.bnd := ⟨_, rfl⟩
    unfold RetBd at HB2
    rw [← hxb] at HB2 hxl HONC HSS
    simp only [List.nil_append] at HB2
    have hx5 : xb.length ≤ 499 := by omega
    have hle : e.size ≤ x.size := by omega
    obtain ⟨zx, hzx⟩ : ∃ z, z = x.size := ⟨_, rfl⟩
    obtain ⟨ze, hze⟩ : ∃ z, z = e.size := ⟨_, rfl⟩
    rw [← hzx] at HZ1 hle
    rw [← hze] at HZ2 hle
    have qz : decide ((ze : Int) ≤ (zx : Int)) = true := decide_eq_true (by omega)
    clear hbt hxb hcn hxl hxs hxr hfr hzx hze
    have HS0 : Hid (Below W8.heap.size W8 W8.drew) := (Below.refl _ _).drew
    refine wp_region_noPanic ?_
    refine wp_region_held_drew (S := Below W8.heap.size W8) (by kernel_rfl) HS0.out (fun hHeld => ?_)
    generalize W8.drew = X at HS0 hHeld ⊢
    refine wpAnyH_take (i := 0) (v := Value.agg #[.int .i64 k1, .string t1, .slice no1 nn1 nc1, .slice ao2 an1 ac1]) rfl (by kernel_rfl) (by kernel_rfl) (by kernel_rfl) (fun _ _ _ h => h) (Or.inl ⟨rfl, fun w' hw' => ?_⟩) hHeld ?_
    · obtain ⟨d0, d1, d2, d3⟩ := HCX.out w' hw'; go_simp
    simp only [List.getElem_toArray, List.getElem_cons_succ, List.getElem_cons_zero, Act.put, List.setIfInBounds_toArray, List.set_cons_zero, List.set_cons_succ]
    refine wpAnyH_ready (rs := [1]) (by kernel_rfl) (by simp) ?_
    refine (AllReadyH.cons rfl (fun K hK => ?_) AllReadyH.nil)
    go_simp
    refine (HIX.out _ HS0.out).mono ?_
    rintro r u1 ⟨rfl, hbq⟩
    have HS1 : Hid (Below W8.heap.size W8 u1) := HS0.out.trans (hbq.mono HS0.out.size)
    clear hbq
    refine hK.out _ _ HS1.out (fun hHeld => ?_)
    clear hK K
    try simp only [List.getElem_toArray, List.getElem_cons_succ, List.getElem_cons_zero, Act.put, List.setIfInBounds_toArray, List.set_cons_zero, List.set_cons_succ]
    refine wpAnyH_take (i := 2) (v := Value.bool true) rfl (by kernel_rfl) (by kernel_rfl) (by kernel_rfl) (fun _ _ _ h => h) (Or.inl ⟨rfl, fun w' hw' => ?_⟩) hHeld ?_
    · go_simp
    simp only [List.getElem_toArray, List.getElem_cons_succ, List.getElem_cons_zero, Act.put, List.setIfInBounds_toArray, List.set_cons_zero, List.set_cons_succ]
    refine wpAnyH_take (i := 3) (v := Value.agg #[.int .i64 k1, .string t1, .slice no1 nn1 nc1, .slice ao2 an1 ac1]) rfl (by kernel_rfl) (by kernel_rfl) (by kernel_rfl) (fun _ _ _ h => h) (Or.inl ⟨rfl, fun w' hw' => ?_⟩) hHeld ?_
    · obtain ⟨d0, d1, d2, d3⟩ := HCX.out w' hw'; go_simp
    simp only [List.getElem_toArray, List.getElem_cons_succ, List.getElem_cons_zero, Act.put, List.setIfInBounds_toArray, List.set_cons_zero, List.set_cons_succ]
    refine wpAnyH_ready (rs := [4]) (by kernel_rfl) (by simp) ?_
    refine (AllReadyH.cons rfl (fun K hK => ?_) AllReadyH.nil)
    go_simp
    refine (HRX.out _ HS1.out).mono ?_
    rintro r u4 ⟨rfl, hbq⟩
    have HS4 : Hid (Below W8.heap.size W8 u4) := HS1.out.trans (hbq.mono HS1.out.size)
    clear hbq
    refine hK.out _ _ HS4.out (fun hHeld => ?_)
    clear hK K
    try simp only [List.getElem_toArray, List.getElem_cons_succ, List.getElem_cons_zero, Act.put, List.setIfInBounds_toArray, List.set_cons_zero, List.set_cons_succ]
    refine wpAnyH_take (i := 5) (v := Value.bool true) rfl (by kernel_rfl) (by kernel_rfl) (by kernel_rfl) (fun _ _ _ h => h) (Or.inl ⟨rfl, fun w' hw' => ?_⟩) hHeld ?_
    · go_simp
    simp only [List.getElem_toArray, List.getElem_cons_succ, List.getElem_cons_zero, Act.put, List.setIfInBounds_toArray, List.set_cons_zero, List.set_cons_succ]
    refine wpAnyH_take (i := 6) (v := Value.bool true) rfl (by kernel_rfl) (by kernel_rfl) (by kernel_rfl) (fun _ _ _ h => h) (Or.inl ⟨rfl, fun w' hw' => ?_⟩) hHeld ?_
    · go_simp
    simp only [List.getElem_toArray, List.getElem_cons_succ, List.getElem_cons_zero, Act.put, List.setIfInBounds_toArray, List.set_cons_zero, List.set_cons_succ]
    refine wpAnyH_take (i := 7) (v := Value.agg #[.int .i64 k1, .string t1, .slice no1 nn1 nc1, .slice ao2 an1 ac1]) rfl (by kernel_rfl) (by kernel_rfl) (by kernel_rfl) (fun _ _ _ h => h) (Or.inl ⟨rfl, fun w' hw' => ?_⟩) hHeld ?_
    · obtain ⟨d0, d1, d2, d3⟩ := HCX.out w' hw'; go_simp
    simp only [List.getElem_toArray, List.getElem_cons_succ, List.getElem_cons_zero, Act.put, List.setIfInBounds_toArray, List.set_cons_zero, List.set_cons_succ]
    refine wpAnyH_ready (rs := [8]) (by kernel_rfl) (by simp) ?_
    refine (AllReadyH.cons rfl (fun K hK => ?_) AllReadyH.nil)
    go_simp
    refine (HFX.out _ HS4.out).mono ?_
    rintro r u8 ⟨⟨fo, fc, rfl⟩, hbq⟩
    have HS8 : Hid (Below W8.heap.size W8 u8) := HS4.out.trans (hbq.mono HS4.out.size)
    clear hbq
    refine hK.out _ _ HS8.out (fun hHeld => ?_)
    clear hK K
    try simp only [List.getElem_toArray, List.getElem_cons_succ, List.getElem_cons_zero, Act.put, List.setIfInBounds_toArray, List.set_cons_zero, List.set_cons_succ]
    refine wpAnyH_take (i := 9) (v := Value.int .i64 0) rfl (by kernel_rfl) (by kernel_rfl) (by kernel_rfl) (fun _ _ _ h => h) (Or.inl ⟨rfl, fun w' hw' => ?_⟩) hHeld ?_
    · go_simp
    simp only [List.getElem_toArray, List.getElem_cons_succ, List.getElem_cons_zero, Act.put, List.setIfInBounds_toArray, List.set_cons_zero, List.set_cons_succ]
    refine wpAnyH_take (i := 10) (v := Value.bool true) rfl (by kernel_rfl) (by kernel_rfl) (by kernel_rfl) (fun _ _ _ h => h) (Or.inl ⟨rfl, fun w' hw' => ?_⟩) hHeld ?_
    · go_simp
    simp only [List.getElem_toArray, List.getElem_cons_succ, List.getElem_cons_zero, Act.put, List.setIfInBounds_toArray, List.set_cons_zero, List.set_cons_succ]
    refine wpAnyH_take (i := 11) (v := Value.bool true) rfl (by kernel_rfl) (by kernel_rfl) (by kernel_rfl) (fun _ _ _ h => h) (Or.inl ⟨rfl, fun w' hw' => ?_⟩) hHeld ?_
    · go_simp
    simp only [List.getElem_toArray, List.getElem_cons_succ, List.getElem_cons_zero, Act.put, List.setIfInBounds_toArray, List.set_cons_zero, List.set_cons_succ]
    refine wpAnyH_take (i := 12) (v := Value.bool true) rfl (by kernel_rfl) (by kernel_rfl) (by kernel_rfl) (fun _ _ _ h => h) (Or.inl ⟨rfl, fun w' hw' => ?_⟩) hHeld ?_
    · go_simp
    simp only [List.getElem_toArray, List.getElem_cons_succ, List.getElem_cons_zero, Act.put, List.setIfInBounds_toArray, List.set_cons_zero, List.set_cons_succ]
    refine wpAnyH_take (i := 13) (v := Value.agg #[.int .i64 k1, .string t1, .slice no1 nn1 nc1, .slice ao2 an1 ac1]) rfl (by kernel_rfl) (by kernel_rfl) (by kernel_rfl) (fun _ _ _ h => h) (Or.inl ⟨rfl, fun w' hw' => ?_⟩) hHeld ?_
    · obtain ⟨d0, d1, d2, d3⟩ := HCX.out w' hw'; go_simp
    simp only [List.getElem_toArray, List.getElem_cons_succ, List.getElem_cons_zero, Act.put, List.setIfInBounds_toArray, List.set_cons_zero, List.set_cons_succ]
    refine wpAnyH_ready (rs := [14]) (by kernel_rfl) (by simp) ?_
    refine (AllReadyH.cons rfl (fun K hK => ?_) AllReadyH.nil)
    go_simp
    refine (HB2.out _ HS8.out).mono ?_
    rintro r u14 ⟨v14, rfl, hown, hg, hn⟩
    obtain ⟨bo, bc, rfl⟩ := own_form hown
    have hbq : Below u8.heap.size u8 u14 := ⟨hg.os, hg.tape, hg.output, hg.size, fun k hk => hg.block k hk (fun e => by cases e)⟩
    have HS14 : Hid (Below W8.heap.size W8 u14) := HS8.out.trans (hbq.mono HS8.out.size)
    have HON := Lib.hid (once_any xb _ _ u14 hown.at (by omega))
    have hoo : decide (Once xb) = true := decide_eq_true HONC.out
    rw [hoo] at HON
    clear hbq hg hn hown hoo
    refine hK.out _ _ HS14.out (fun hHeld => ?_)
    clear hK K
    try simp only [List.getElem_toArray, List.getElem_cons_succ, List.getElem_cons_zero, Act.put, List.setIfInBounds_toArray, List.set_cons_zero, List.set_cons_succ]
    refine wpAnyH_ready (rs := [15]) (by kernel_rfl) (by simp) ?_
    refine (AllReadyH.cons rfl (fun K hK => ?_) AllReadyH.nil)
    go_simp
    refine (HON.out).mono ?_
    rintro r u15 ⟨rfl, hbq⟩
    have HS15 : Hid (Below W8.heap.size W8 u15) := HS14.out.trans (hbq.mono HS14.out.size)
    clear hbq
    refine hK.out _ _ HS15.out (fun hHeld => ?_)
    clear hK K
    try simp only [List.getElem_toArray, List.getElem_cons_succ, List.getElem_cons_zero, Act.put, List.setIfInBounds_toArray, List.set_cons_zero, List.set_cons_succ]
    refine wpAnyH_take (i := 16) (v := Value.bool true) rfl (by kernel_rfl) (by kernel_rfl) (by kernel_rfl) (fun _ _ _ h => h) (Or.inl ⟨rfl, fun w' hw' => ?_⟩) hHeld ?_
    · go_simp
    simp only [List.getElem_toArray, List.getElem_cons_succ, List.getElem_cons_zero, Act.put, List.setIfInBounds_toArray, List.set_cons_zero, List.set_cons_succ]
    refine wpAnyH_take (i := 17) (v := Value.bool true) rfl (by kernel_rfl) (by kernel_rfl) (by kernel_rfl) (fun _ _ _ h => h) (Or.inl ⟨rfl, fun w' hw' => ?_⟩) hHeld ?_
    · go_simp
    simp only [List.getElem_toArray, List.getElem_cons_succ, List.getElem_cons_zero, Act.put, List.setIfInBounds_toArray, List.set_cons_zero, List.set_cons_succ]
    refine wpAnyH_take (i := 18) (v := Value.agg #[.int .i64 k1, .string t1, .slice no1 nn1 nc1, .slice ao2 an1 ac1]) rfl (by kernel_rfl) (by kernel_rfl) (by kernel_rfl) (fun _ _ _ h => h) (Or.inl ⟨rfl, fun w' hw' => ?_⟩) hHeld ?_
    · obtain ⟨d0, d1, d2, d3⟩ := HCX.out w' hw'; go_simp
    simp only [List.getElem_toArray, List.getElem_cons_succ, List.getElem_cons_zero, Act.put, List.setIfInBounds_toArray, List.set_cons_zero, List.set_cons_succ]
    refine wpAnyH_take (i := 20) (v := Value.agg #[.int .i64 k0, .string t0, .slice no0 nn0 nc0, .slice ao1 an0 ac0]) rfl (by kernel_rfl) (by kernel_rfl) (by kernel_rfl) (fun _ _ _ h => h) (Or.inl ⟨rfl, fun w' hw' => ?_⟩) hHeld ?_
    · obtain ⟨d0, d1, d2, d3⟩ := HCE.out w' hw'; go_simp
    simp only [List.getElem_toArray, List.getElem_cons_succ, List.getElem_cons_zero, Act.put, List.setIfInBounds_toArray, List.set_cons_zero, List.set_cons_succ]
    refine wpAnyH_ready (rs := [19]) (by kernel_rfl) (by simp) ?_
    refine (AllReadyH.cons rfl (fun K hK => ?_) AllReadyH.nil)
    go_simp
    refine (HZ1.out _ HS15.out).mono ?_
    rintro r u19 ⟨rfl, hbq⟩
    have HS19 : Hid (Below W8.heap.size W8 u19) := HS15.out.trans (hbq.mono HS15.out.size)
    clear hbq
    refine hK.out _ _ HS19.out (fun hHeld => ?_)
    clear hK K
    try simp only [List.getElem_toArray, List.getElem_cons_succ, List.getElem_cons_zero, Act.put, List.setIfInBounds_toArray, List.set_cons_zero, List.set_cons_succ]
    refine wpAnyH_ready (rs := [21]) (by kernel_rfl) (by simp) ?_
    refine (AllReadyH.cons rfl (fun K hK => ?_) AllReadyH.nil)
    go_simp
    refine (HZ2.out _ HS19.out).mono ?_
    rintro r u21 ⟨rfl, hbq⟩
    have HS21 : Hid (Below W8.heap.size W8 u21) := HS19.out.trans (hbq.mono HS19.out.size)
    clear hbq
    refine hK.out _ _ HS21.out (fun hHeld => ?_)
    clear hK K
    try simp only [List.getElem_toArray, List.getElem_cons_succ, List.getElem_cons_zero, Act.put, List.setIfInBounds_toArray, List.set_cons_zero, List.set_cons_succ]
    refine wpAnyH_take (i := 22) (v := Value.bool true) rfl (by kernel_rfl) (by kernel_rfl) (by kernel_rfl) (fun _ _ _ h => h) (Or.inl ⟨rfl, fun w' hw' => ?_⟩) hHeld ?_
    · go_simp
    simp only [List.getElem_toArray, List.getElem_cons_succ, List.getElem_cons_zero, Act.put, List.setIfInBounds_toArray, List.set_cons_zero, List.set_cons_succ]
    refine wpAnyH_take (i := 23) (v := Value.bool true) rfl (by kernel_rfl) (by kernel_rfl) (by kernel_rfl) (fun _ _ _ h => h) (Or.inl ⟨rfl, fun w' hw' => ?_⟩) hHeld ?_
    · go_simp
    simp only [List.getElem_toArray, List.getElem_cons_succ, List.getElem_cons_zero, Act.put, List.setIfInBounds_toArray, List.set_cons_zero, List.set_cons_succ]
    refine wpAnyH_take (i := 24) (v := Value.bool true) rfl (by kernel_rfl) (by kernel_rfl) (by kernel_rfl) (fun _ _ _ h => h) (Or.inl ⟨rfl, fun w' hw' => ?_⟩) hHeld ?_
    · go_simp
    simp only [List.getElem_toArray, List.getElem_cons_succ, List.getElem_cons_zero, Act.put, List.setIfInBounds_toArray, List.set_cons_zero, List.set_cons_succ]
    refine wpAnyH_done (by kernel_rfl) ?_ _
    refine NoPanic.normal ?_
    clear hHeld
    have HD := Lib.hid (HB8.out.trans (HS21.out.mono HB8.out.size))
    go_wp2_with fail
    go_ret
    exact ⟨rfl, HD.out⟩
end Go.Proofs.YtmcgocbkjdacaaaDoor
