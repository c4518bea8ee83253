/- norm.Is. -/
import Derived.Test.YtmcgocbkjdacaaaDoorNI
namespace Go.Proofs.YtmcgocbkjdacaaaDoor
open Go.RowKit Go.BigM
set_option linter.unusedVariables false
set_option linter.unusedSimpArgs false
set_option maxHeartbeats 4000000 in
set_option maxRecDepth 100000 in
theorem isnot_tells (e : Et) (h : Tells 13 Et.is e) : Tells 35 (fun e => !e.is) e := by
  intro S cs w hat
  obtain ⟨k, t, nv, av, rfl, o1, o2⟩ := EAt_form hat
  have HB := Lib.hid ((Below.refl w.heap.size w).alloc (Nat.le_refl _) (.cells #[.int .i64 k, .string t, nv, av] 28))
  have HG := Lib.hid (alloc_at w (.cells #[.int .i64 k, .string t, nv, av] 28))
  have HC := Lib.hid (h S _ _ (Et.At.keeps (Keeps.of_below HB.out) _ _ hat))
  clear hat h
  go_enter Tryd.func35, Tryd.ntmps35
  go_wp2_with (refine wpList_load_row rfl 28 _ rfl w.heap.size rfl 28 #[.int .i64 k, .string t, nv, av] (0, 0) _ HG.out Tryd.underlying28 rfl info28 ?_)
  refine HC.out.mono ?_
  rintro e' w1 ⟨rfl, hb⟩
  have HD := Lib.hid (HB.out.trans (hb.mono HB.out.size))
  clear hb
  go_wp2_with fail
  go_ret
  exact ⟨rfl, HD.out⟩
theorem is_of (k : Int) (t : ByteArray) (ns : List ByteArray) (a : List Et) : (Et.mk k t ns a).is = (!(a.drop (firstN k t a.length)).any (fun e => !e.atom) && !a.any (fun e => !e.is)) := by
  rw [is_mk, Bool.eq_iff_iff, iss_get]
  simp only [Bool.and_eq_true, Bool.not_eq_true', List.any_eq_false, Bool.not_eq_true, Bool.not_eq_false', Nat.zero_add]
  have hf := firstN_le k t a.length
  constructor
  · intro h
    refine ⟨fun e he => ?_, fun e he => ?_⟩
    · obtain ⟨j, hj, rfl⟩ := List.getElem_of_mem he
      rw [List.getElem_drop]
      rw [List.length_drop] at hj
      have hlt : firstN k t a.length + j < a.length := by omega
      simpa using (h _ hlt).2 (by rw [firstN_slot k t a.length _ hlt]; simp)
    · obtain ⟨j, hj, rfl⟩ := List.getElem_of_mem he
      simpa using (h j hj).1
  · rintro ⟨h1, h2⟩ j hj
    refine ⟨by simpa using h2 _ (List.getElem_mem hj), fun hs => ?_⟩
    rw [firstN_slot k t a.length j hj] at hs
    have hs' := of_decide_eq_true hs
    have h3 := h1 (a[j]) (by
      rw [List.mem_iff_getElem]
      exact ⟨j - firstN k t a.length, by rw [List.length_drop]; omega, by rw [List.getElem_drop]; congr 1; omega⟩)
    simpa using h3
set_option maxHeartbeats 8000000 in
set_option maxRecDepth 100000 in
theorem is_some (k : Int) (t : ByteArray) (ns : List ByteArray) (a : List Et) (ih : ∀ e ∈ a, Tells 13 Et.is e) (hl : a.length ≤ 100000) (ht : t.size ≤ 100000) (S : Nat → Prop) (no : Option Addr) (nc : Nat) (g o ac : Nat) (w : World)
    (hla : AAt S w (.slice (some ⟨g, o, none⟩) a.length ac) a) : Calls Tryd.prog 13 #[.agg #[.int .i64 k, .string t, .slice no ns.length nc, .slice (some ⟨g, o, none⟩) a.length ac]] w (RetBool (Et.mk k t ns a).is w) := by
  rw [is_of]
  have HB := Lib.hid ((Below.refl w.heap.size w).alloc (Nat.le_refl _) (.cells #[.int .i64 k, .string t, .slice no ns.length nc, .slice (some ⟨g, o, none⟩) a.length ac] 28))
  have HE : Hid (EB (w.alloc (.cells #[.int .i64 k, .string t, .slice no ns.length nc, .slice (some ⟨g, o, none⟩) a.length ac] 28)) w.heap.size k t (.slice no ns.length nc) (.slice (some ⟨g, o, none⟩) a.length ac)) := alloc_at _ _
  have HA := Lib.hid (hla.keeps (Keeps.of_below HB.out))
  have hfl := firstN_le k t a.length
  have hcap := hla.caps
  obtain ⟨f, hf⟩ : ∃ f, f = firstN k t a.length := ⟨_, rfl⟩
  rw [← hf] at hfl ⊢
  obtain ⟨p, hp⟩ : ∃ p, p = if ac = f then o else o + f * 4 := ⟨_, rfl⟩
  have HP := Lib.hid hp
  clear hp
  have HF : Hid (∀ w, Calls Tryd.prog 33 #[.agg #[.int .i64 k, .string t, .slice no ns.length nc, .slice (some ⟨g, o, none⟩) a.length ac]] w (RetInt (f : Nat) w)) := fun w => by rw [hf]; exact first_any k t (.slice no ns.length nc) _ _ _ w hl ht rfl
  have T1 : Hid (∀ w', Below (w.alloc (.cells #[.int .i64 k, .string t, .slice no ns.length nc, .slice (some ⟨g, o, none⟩) a.length ac] 28)).heap.size (w.alloc (.cells #[.int .i64 k, .string t, .slice no ns.length nc, .slice (some ⟨g, o, none⟩) a.length ac] 28)) w' → Calls Tryd.prog 32 #[.slice (some ⟨g, p, none⟩) (a.length - f) (ac - f), .func (.func 34) #[] #[]] w' (RetBool ((a.drop f).any (fun e => !e.atom)) w')) := fun w' hw' =>
    contains_of34 (fun e => !e.atom) (a.drop f) (fun e _ => nameless_tells e) S _ w' (HP.out ▸ (HA.out.keeps (Keeps.of_below hw')).drop2 f hfl) (by rw [List.length_drop]; omega)
  have T2 : Hid (∀ w', Below (w.alloc (.cells #[.int .i64 k, .string t, .slice no ns.length nc, .slice (some ⟨g, o, none⟩) a.length ac] 28)).heap.size (w.alloc (.cells #[.int .i64 k, .string t, .slice no ns.length nc, .slice (some ⟨g, o, none⟩) a.length ac] 28)) w' → Calls Tryd.prog 32 #[.slice (some ⟨g, o, none⟩) a.length ac, .func (.func 35) #[] #[]] w' (RetBool (a.any (fun e => !e.is)) w')) := fun w' hw' =>
    contains_of35 (fun e => !e.is) a (fun e he => isnot_tells e (ih e he)) S _ w' (HA.out.keeps (Keeps.of_below hw')) hl
  obtain ⟨b1, hb1⟩ : ∃ b, (a.drop f).any (fun e => !e.atom) = b := ⟨_, rfl⟩
  obtain ⟨b2, hb2⟩ : ∃ b, a.any (fun e => !e.is) = b := ⟨_, rfl⟩
  rw [hb1] at T1 ⊢
  rw [hb2] at T2 ⊢
  clear hb1 hb2 hf ih hla
  go_enter Tryd.func13, Tryd.ntmps13
  go_upto_region 1 with fail
  generalize w.alloc (.cells #[.int .i64 k, .string t, .slice no ns.length nc, .slice (some ⟨g, o, none⟩) a.length ac] 28) = W1 at HB HE HA T1 T2 ⊢
  obtain ⟨ge, hge⟩ : ∃ ge, ge = w.heap.size := ⟨_, rfl⟩
  rw [← hge] at HE
  simp only [← hge]
  clear hge
  have HCE : Hid (∀ w', Below W1.heap.size W1 w' → w'.cell? ⟨ge, 0, none⟩ = some (.int .i64 k) ∧ w'.cell? ⟨ge, 1, none⟩ = some (.string t) ∧ w'.cell? ⟨ge, 2, none⟩ = some (.slice no ns.length nc) ∧ w'.cell? ⟨ge, 3, none⟩ = some (.slice (some ⟨g, o, none⟩) a.length ac)) := fun w' hw' => EB.cell w' ge k t _ _ (row_below hw' HE.out)
  have HS0 : Hid (Below W1.heap.size W1 W1.drew) := (Below.refl _ _).drew
  refine wp_region_noPanic ?_
  refine wp_region_held_drew (S := Below W1.heap.size W1) (by kernel_rfl) HS0.out (fun hHeld => ?_)
  generalize W1.drew = X at HS0 hHeld ⊢
  refine wpAnyH_take (i := 0) (v := Value.pointer (some ⟨ge, 3, none⟩)) rfl (by kernel_rfl) (by kernel_rfl) (by kernel_rfl) (fun _ _ _ h => h) (Or.inl ⟨rfl, fun w' hw' => ?_⟩) hHeld ?_
  · go_simp
  simp only [List.getElem_toArray, List.getElem_cons_succ, List.getElem_cons_zero, Act.put, List.setIfInBounds_toArray, List.set_cons_zero, List.set_cons_succ]
  refine wpAnyH_take (i := 1) (v := Value.slice (some ⟨g, o, none⟩) a.length ac) rfl (by kernel_rfl) (by kernel_rfl) (by kernel_rfl) (fun _ _ _ h => h) (Or.inl ⟨rfl, fun w' hw' => ?_⟩) hHeld ?_
  · obtain ⟨d0, d1, d2, d3⟩ := HCE.out w' hw'; go_simp
  simp only [List.getElem_toArray, List.getElem_cons_succ, List.getElem_cons_zero, Act.put, List.setIfInBounds_toArray, List.set_cons_zero, List.set_cons_succ]
  refine wpAnyH_take (i := 2) (v := Value.agg #[.int .i64 k, .string t, .slice no ns.length nc, .slice (some ⟨g, o, none⟩) a.length ac]) rfl (by kernel_rfl) (by kernel_rfl) (by kernel_rfl) (fun _ _ _ h => h) (Or.inl ⟨rfl, fun w' hw' => ?_⟩) hHeld ?_
  · obtain ⟨d0, d1, d2, d3⟩ := HCE.out w' hw'; go_simp
  simp only [List.getElem_toArray, List.getElem_cons_succ, List.getElem_cons_zero, Act.put, List.setIfInBounds_toArray, List.set_cons_zero, List.set_cons_succ]
  refine wpAnyH_ready (rs := [3]) (by kernel_rfl) (by simp) ?_
  refine (AllReadyH.cons rfl (fun K hK => ?_) AllReadyH.nil)
  go_simp
  refine (HF.out _).mono ?_
  rintro r u3 ⟨rfl, hbq⟩
  have HS3 : Hid (Below W1.heap.size W1 u3) := HS0.out.trans (hbq.mono HS0.out.size)
  clear hbq
  refine hK.out _ _ HS3.out (fun hHeld => ?_)
  clear hK K
  try simp only [List.getElem_toArray, List.getElem_cons_succ, List.getElem_cons_zero, Act.put, List.setIfInBounds_toArray, List.set_cons_zero, List.set_cons_succ]
  refine wpAnyH_take (i := 4) (v := Value.slice (some ⟨g, p, none⟩) (a.length - f) (ac - f)) rfl (by kernel_rfl) (by kernel_rfl) (by kernel_rfl) (fun _ _ _ h => h) (Or.inl ⟨rfl, fun w' hw' => ?_⟩) hHeld ?_
  · rw [HP.out]; go_simp; by_cases hcf : ac = f <;> simp [hcf]
  simp only [List.getElem_toArray, List.getElem_cons_succ, List.getElem_cons_zero, Act.put, List.setIfInBounds_toArray, List.set_cons_zero, List.set_cons_succ]
  refine wpAnyH_ready (rs := [5]) (by kernel_rfl) (by simp) ?_
  refine (AllReadyH.cons rfl (fun K hK => ?_) AllReadyH.nil)
  go_simp
  refine (T1.out _ HS3.out).mono ?_
  rintro r u5 ⟨rfl, hbq⟩
  have HS5 : Hid (Below W1.heap.size W1 u5) := HS3.out.trans (hbq.mono HS3.out.size)
  clear hbq
  refine hK.out _ _ HS5.out (fun hHeld => ?_)
  clear hK K
  try simp only [List.getElem_toArray, List.getElem_cons_succ, List.getElem_cons_zero, Act.put, List.setIfInBounds_toArray, List.set_cons_zero, List.set_cons_succ]
  cases b1
  · skip
    refine wpAnyH_take (i := 6) (v := Value.bool true) rfl (by kernel_rfl) (by kernel_rfl) (by kernel_rfl) (fun _ _ _ h => h) (Or.inl ⟨rfl, fun w' hw' => ?_⟩) hHeld ?_
    · go_simp
    simp only [List.getElem_toArray, List.getElem_cons_succ, List.getElem_cons_zero, Act.put, List.setIfInBounds_toArray, List.set_cons_zero, List.set_cons_succ]
    refine wpAnyH_take (i := 7) (v := Value.bool true) rfl (by kernel_rfl) (by kernel_rfl) (by kernel_rfl) (fun _ _ _ h => h) (Or.inl ⟨rfl, fun w' hw' => ?_⟩) hHeld ?_
    · go_simp
    simp only [List.getElem_toArray, List.getElem_cons_succ, List.getElem_cons_zero, Act.put, List.setIfInBounds_toArray, List.set_cons_zero, List.set_cons_succ]
    refine wpAnyH_take (i := 8) (v := Value.pointer (some ⟨ge, 3, none⟩)) rfl (by kernel_rfl) (by kernel_rfl) (by kernel_rfl) (fun _ _ _ h => h) (Or.inl ⟨rfl, fun w' hw' => ?_⟩) hHeld ?_
    · go_simp
    simp only [List.getElem_toArray, List.getElem_cons_succ, List.getElem_cons_zero, Act.put, List.setIfInBounds_toArray, List.set_cons_zero, List.set_cons_succ]
    refine wpAnyH_take (i := 9) (v := Value.slice (some ⟨g, o, none⟩) a.length ac) rfl (by kernel_rfl) (by kernel_rfl) (by kernel_rfl) (fun _ _ _ h => h) (Or.inl ⟨rfl, fun w' hw' => ?_⟩) hHeld ?_
    · obtain ⟨d0, d1, d2, d3⟩ := HCE.out w' hw'; go_simp
    simp only [List.getElem_toArray, List.getElem_cons_succ, List.getElem_cons_zero, Act.put, List.setIfInBounds_toArray, List.set_cons_zero, List.set_cons_succ]
    refine wpAnyH_ready (rs := [10]) (by kernel_rfl) (by simp) ?_
    refine (AllReadyH.cons rfl (fun K hK => ?_) AllReadyH.nil)
    go_simp
    refine (T2.out _ HS5.out).mono ?_
    rintro r u10 ⟨rfl, hbq⟩
    have HS10 : Hid (Below W1.heap.size W1 u10) := HS5.out.trans (hbq.mono HS5.out.size)
    clear hbq
    refine hK.out _ _ HS10.out (fun hHeld => ?_)
    clear hK K
    try simp only [List.getElem_toArray, List.getElem_cons_succ, List.getElem_cons_zero, Act.put, List.setIfInBounds_toArray, List.set_cons_zero, List.set_cons_succ]
    refine wpAnyH_take (i := 11) (v := Value.bool (!b2)) rfl (by kernel_rfl) (by kernel_rfl) (by kernel_rfl) (fun _ _ _ h => h) (Or.inl ⟨rfl, fun w' hw' => ?_⟩) hHeld ?_
    · go_simp
    simp only [List.getElem_toArray, List.getElem_cons_succ, List.getElem_cons_zero, Act.put, List.setIfInBounds_toArray, List.set_cons_zero, List.set_cons_succ]
    refine wpAnyH_take (i := 12) (v := Value.bool (!b2)) rfl (by kernel_rfl) (by kernel_rfl) (by kernel_rfl) (fun _ _ _ h => h) (Or.inl ⟨rfl, fun w' hw' => ?_⟩) hHeld ?_
    · go_simp
    simp only [List.getElem_toArray, List.getElem_cons_succ, List.getElem_cons_zero, Act.put, List.setIfInBounds_toArray, List.set_cons_zero, List.set_cons_succ]
    refine wpAnyH_take (i := 13) (v := Value.bool (!b2)) rfl (by kernel_rfl) (by kernel_rfl) (by kernel_rfl) (fun _ _ _ h => h) (Or.inl ⟨rfl, fun w' hw' => ?_⟩) hHeld ?_
    · go_simp
    simp only [List.getElem_toArray, List.getElem_cons_succ, List.getElem_cons_zero, Act.put, List.setIfInBounds_toArray, List.set_cons_zero, List.set_cons_succ]
    refine wpAnyH_done (by kernel_rfl) ?_ _
    refine NoPanic.normal ?_
    clear hHeld
    have HD := Lib.hid (HB.out.trans (HS10.out.mono HB.out.size))
    go_wp2_with fail
    go_ret
    exact ⟨rfl, HD.out⟩
  · skip
    refine wpAnyH_take (i := 6) (v := Value.bool false) rfl (by kernel_rfl) (by kernel_rfl) (by kernel_rfl) (fun _ _ _ h => h) (Or.inl ⟨rfl, fun w' hw' => ?_⟩) hHeld ?_
    · go_simp
    simp only [List.getElem_toArray, List.getElem_cons_succ, List.getElem_cons_zero, Act.put, List.setIfInBounds_toArray, List.set_cons_zero, List.set_cons_succ]
    refine wpAnyH_take (i := 7) (v := Value.bool false) rfl (by kernel_rfl) (by kernel_rfl) (by kernel_rfl) (fun _ _ _ h => h) (Or.inl ⟨rfl, fun w' hw' => ?_⟩) hHeld ?_
    · go_simp
    simp only [List.getElem_toArray, List.getElem_cons_succ, List.getElem_cons_zero, Act.put, List.setIfInBounds_toArray, List.set_cons_zero, List.set_cons_succ]
    refine wpAnyH_take (i := 8) (v := undef) rfl (by kernel_rfl) (by kernel_rfl) (by kernel_rfl) (fun _ _ _ h => h) (Or.inr ⟨rfl, rfl⟩) hHeld ?_
    simp only [List.getElem_toArray, List.getElem_cons_succ, List.getElem_cons_zero, Act.put, List.setIfInBounds_toArray, List.set_cons_zero, List.set_cons_succ]
    refine wpAnyH_take (i := 9) (v := undef) rfl (by kernel_rfl) (by kernel_rfl) (by kernel_rfl) (fun _ _ _ h => h) (Or.inr ⟨rfl, rfl⟩) hHeld ?_
    simp only [List.getElem_toArray, List.getElem_cons_succ, List.getElem_cons_zero, Act.put, List.setIfInBounds_toArray, List.set_cons_zero, List.set_cons_succ]
    refine wpAnyH_take (i := 10) (v := undef) rfl (by kernel_rfl) (by kernel_rfl) (by kernel_rfl) (fun _ _ _ h => h) (Or.inr ⟨rfl, rfl⟩) hHeld ?_
    simp only [List.getElem_toArray, List.getElem_cons_succ, List.getElem_cons_zero, Act.put, List.setIfInBounds_toArray, List.set_cons_zero, List.set_cons_succ]
    refine wpAnyH_take (i := 11) (v := undef) rfl (by kernel_rfl) (by kernel_rfl) (by kernel_rfl) (fun _ _ _ h => h) (Or.inr ⟨rfl, rfl⟩) hHeld ?_
    simp only [List.getElem_toArray, List.getElem_cons_succ, List.getElem_cons_zero, Act.put, List.setIfInBounds_toArray, List.set_cons_zero, List.set_cons_succ]
    refine wpAnyH_take (i := 12) (v := Value.bool false) rfl (by kernel_rfl) (by kernel_rfl) (by kernel_rfl) (fun _ _ _ h => h) (Or.inl ⟨rfl, fun w' hw' => ?_⟩) hHeld ?_
    · go_simp
    simp only [List.getElem_toArray, List.getElem_cons_succ, List.getElem_cons_zero, Act.put, List.setIfInBounds_toArray, List.set_cons_zero, List.set_cons_succ]
    refine wpAnyH_take (i := 13) (v := Value.bool false) rfl (by kernel_rfl) (by kernel_rfl) (by kernel_rfl) (fun _ _ _ h => h) (Or.inl ⟨rfl, fun w' hw' => ?_⟩) hHeld ?_
    · go_simp
    simp only [List.getElem_toArray, List.getElem_cons_succ, List.getElem_cons_zero, Act.put, List.setIfInBounds_toArray, List.set_cons_zero, List.set_cons_succ]
    refine wpAnyH_done (by kernel_rfl) ?_ _
    refine NoPanic.normal ?_
    clear hHeld
    have HD := Lib.hid (HB.out.trans (HS5.out.mono HB.out.size))
    go_wp2_with fail
    go_ret
    exact ⟨rfl, HD.out⟩
theorem AAt.nilE (S : Nat → Prop) (w : World) : AAt S w (.slice none 0 0) [] := .inl ⟨rfl, rfl⟩
set_option maxHeartbeats 8000000 in
set_option maxRecDepth 100000 in
theorem is_none (k : Int) (t : ByteArray) (ns : List ByteArray) (ht : t.size ≤ 100000) (S : Nat → Prop) (no : Option Addr) (nc : Nat)  (w : World)
     : Calls Tryd.prog 13 #[.agg #[.int .i64 k, .string t, .slice no ns.length nc, .slice none 0 0]] w (RetBool (Et.mk k t ns []).is w) := by
  rw [is_of]
  have HB := Lib.hid ((Below.refl w.heap.size w).alloc (Nat.le_refl _) (.cells #[.int .i64 k, .string t, .slice no ns.length nc, .slice none 0 0] 28))
  have HE : Hid (EB (w.alloc (.cells #[.int .i64 k, .string t, .slice no ns.length nc, .slice none 0 0] 28)) w.heap.size k t (.slice no ns.length nc) (.slice none 0 0)) := alloc_at _ _
  have HA := Lib.hid (AAt.nilE S (w.alloc (.cells #[.int .i64 k, .string t, .slice no ns.length nc, .slice none 0 0] 28)))
  have hfl : firstN k t ([] : List Et).length ≤ 0 := firstN_le k t 0
  obtain ⟨f, hf⟩ : ∃ f, f = firstN k t ([] : List Et).length := ⟨_, rfl⟩
  rw [← hf] at hfl ⊢
  have HF : Hid (∀ w, Calls Tryd.prog 33 #[.agg #[.int .i64 k, .string t, .slice no ns.length nc, .slice none 0 0]] w (RetInt (f : Nat) w)) := fun w => by rw [hf]; exact first_any k t (.slice no ns.length nc) _ _ _ w (by simp) ht rfl
  have T1 : Hid (∀ w', Below (w.alloc (.cells #[.int .i64 k, .string t, .slice no ns.length nc, .slice none 0 0] 28)).heap.size (w.alloc (.cells #[.int .i64 k, .string t, .slice no ns.length nc, .slice none 0 0] 28)) w' → Calls Tryd.prog 32 #[.slice none 0 0, .func (.func 34) #[] #[]] w' (RetBool ((([] : List Et).drop f).any (fun e => !e.atom)) w')) := fun w' hw' =>
    contains_of34 (fun e => !e.atom) (([] : List Et).drop f) (fun e _ => nameless_tells e) S _ w' (.inl ⟨rfl, by simp⟩) (by simp)
  have T2 : Hid (∀ w', Below (w.alloc (.cells #[.int .i64 k, .string t, .slice no ns.length nc, .slice none 0 0] 28)).heap.size (w.alloc (.cells #[.int .i64 k, .string t, .slice no ns.length nc, .slice none 0 0] 28)) w' → Calls Tryd.prog 32 #[.slice none 0 0, .func (.func 35) #[] #[]] w' (RetBool (([] : List Et).any (fun e => !e.is)) w')) := fun w' hw' =>
    contains_of35 (fun e => !e.is) [] (fun e he => by cases he) S _ w' (HA.out.keeps (Keeps.of_below hw')) (by simp)
  obtain ⟨b1, hb1⟩ : ∃ b, (([] : List Et).drop f).any (fun e => !e.atom) = b := ⟨_, rfl⟩
  obtain ⟨b2, hb2⟩ : ∃ b, ([] : List Et).any (fun e => !e.is) = b := ⟨_, rfl⟩
  rw [hb1] at T1 ⊢
  rw [hb2] at T2 ⊢
  clear hb1 hb2 hf 
  go_enter Tryd.func13, Tryd.ntmps13
  go_upto_region 1 with fail
  generalize w.alloc (.cells #[.int .i64 k, .string t, .slice no ns.length nc, .slice none 0 0] 28) = W1 at HB HE HA T1 T2 ⊢
  obtain ⟨ge, hge⟩ : ∃ ge, ge = w.heap.size := ⟨_, rfl⟩
  rw [← hge] at HE
  simp only [← hge]
  clear hge
  have HCE : Hid (∀ w', Below W1.heap.size W1 w' → w'.cell? ⟨ge, 0, none⟩ = some (.int .i64 k) ∧ w'.cell? ⟨ge, 1, none⟩ = some (.string t) ∧ w'.cell? ⟨ge, 2, none⟩ = some (.slice no ns.length nc) ∧ w'.cell? ⟨ge, 3, none⟩ = some (.slice none 0 0)) := fun w' hw' => EB.cell w' ge k t _ _ (row_below hw' HE.out)
  have HS0 : Hid (Below W1.heap.size W1 W1.drew) := (Below.refl _ _).drew
  refine wp_region_noPanic ?_
  refine wp_region_held_drew (S := Below W1.heap.size W1) (by kernel_rfl) HS0.out (fun hHeld => ?_)
  generalize W1.drew = X at HS0 hHeld ⊢
  refine wpAnyH_take (i := 0) (v := Value.pointer (some ⟨ge, 3, none⟩)) rfl (by kernel_rfl) (by kernel_rfl) (by kernel_rfl) (fun _ _ _ h => h) (Or.inl ⟨rfl, fun w' hw' => ?_⟩) hHeld ?_
  · go_simp
  simp only [List.getElem_toArray, List.getElem_cons_succ, List.getElem_cons_zero, Act.put, List.setIfInBounds_toArray, List.set_cons_zero, List.set_cons_succ]
  refine wpAnyH_take (i := 1) (v := Value.slice none 0 0) rfl (by kernel_rfl) (by kernel_rfl) (by kernel_rfl) (fun _ _ _ h => h) (Or.inl ⟨rfl, fun w' hw' => ?_⟩) hHeld ?_
  · obtain ⟨d0, d1, d2, d3⟩ := HCE.out w' hw'; go_simp
  simp only [List.getElem_toArray, List.getElem_cons_succ, List.getElem_cons_zero, Act.put, List.setIfInBounds_toArray, List.set_cons_zero, List.set_cons_succ]
  refine wpAnyH_take (i := 2) (v := Value.agg #[.int .i64 k, .string t, .slice no ns.length nc, .slice none 0 0]) rfl (by kernel_rfl) (by kernel_rfl) (by kernel_rfl) (fun _ _ _ h => h) (Or.inl ⟨rfl, fun w' hw' => ?_⟩) hHeld ?_
  · obtain ⟨d0, d1, d2, d3⟩ := HCE.out w' hw'; go_simp
  simp only [List.getElem_toArray, List.getElem_cons_succ, List.getElem_cons_zero, Act.put, List.setIfInBounds_toArray, List.set_cons_zero, List.set_cons_succ]
  refine wpAnyH_ready (rs := [3]) (by kernel_rfl) (by simp) ?_
  refine (AllReadyH.cons rfl (fun K hK => ?_) AllReadyH.nil)
  go_simp
  refine (HF.out _).mono ?_
  rintro r u3 ⟨rfl, hbq⟩
  have HS3 : Hid (Below W1.heap.size W1 u3) := HS0.out.trans (hbq.mono HS0.out.size)
  clear hbq
  refine hK.out _ _ HS3.out (fun hHeld => ?_)
  clear hK K
  try simp only [List.getElem_toArray, List.getElem_cons_succ, List.getElem_cons_zero, Act.put, List.setIfInBounds_toArray, List.set_cons_zero, List.set_cons_succ]
  refine wpAnyH_take (i := 4) (v := Value.slice none 0 0) rfl (by kernel_rfl) (by kernel_rfl) (by kernel_rfl) (fun _ _ _ h => h) (Or.inl ⟨rfl, fun w' hw' => ?_⟩) hHeld ?_
  · obtain rfl : f = 0 := by omega
    go_simp
  simp only [List.getElem_toArray, List.getElem_cons_succ, List.getElem_cons_zero, Act.put, List.setIfInBounds_toArray, List.set_cons_zero, List.set_cons_succ]
  refine wpAnyH_ready (rs := [5]) (by kernel_rfl) (by simp) ?_
  refine (AllReadyH.cons rfl (fun K hK => ?_) AllReadyH.nil)
  go_simp
  refine (T1.out _ HS3.out).mono ?_
  rintro r u5 ⟨rfl, hbq⟩
  have HS5 : Hid (Below W1.heap.size W1 u5) := HS3.out.trans (hbq.mono HS3.out.size)
  clear hbq
  refine hK.out _ _ HS5.out (fun hHeld => ?_)
  clear hK K
  try simp only [List.getElem_toArray, List.getElem_cons_succ, List.getElem_cons_zero, Act.put, List.setIfInBounds_toArray, List.set_cons_zero, List.set_cons_succ]
  cases b1
  · skip
    refine wpAnyH_take (i := 6) (v := Value.bool true) rfl (by kernel_rfl) (by kernel_rfl) (by kernel_rfl) (fun _ _ _ h => h) (Or.inl ⟨rfl, fun w' hw' => ?_⟩) hHeld ?_
    · go_simp
    simp only [List.getElem_toArray, List.getElem_cons_succ, List.getElem_cons_zero, Act.put, List.setIfInBounds_toArray, List.set_cons_zero, List.set_cons_succ]
    refine wpAnyH_take (i := 7) (v := Value.bool true) rfl (by kernel_rfl) (by kernel_rfl) (by kernel_rfl) (fun _ _ _ h => h) (Or.inl ⟨rfl, fun w' hw' => ?_⟩) hHeld ?_
    · go_simp
    simp only [List.getElem_toArray, List.getElem_cons_succ, List.getElem_cons_zero, Act.put, List.setIfInBounds_toArray, List.set_cons_zero, List.set_cons_succ]
    refine wpAnyH_take (i := 8) (v := Value.pointer (some ⟨ge, 3, none⟩)) rfl (by kernel_rfl) (by kernel_rfl) (by kernel_rfl) (fun _ _ _ h => h) (Or.inl ⟨rfl, fun w' hw' => ?_⟩) hHeld ?_
    · go_simp
    simp only [List.getElem_toArray, List.getElem_cons_succ, List.getElem_cons_zero, Act.put, List.setIfInBounds_toArray, List.set_cons_zero, List.set_cons_succ]
    refine wpAnyH_take (i := 9) (v := Value.slice none 0 0) rfl (by kernel_rfl) (by kernel_rfl) (by kernel_rfl) (fun _ _ _ h => h) (Or.inl ⟨rfl, fun w' hw' => ?_⟩) hHeld ?_
    · obtain ⟨d0, d1, d2, d3⟩ := HCE.out w' hw'; go_simp
    simp only [List.getElem_toArray, List.getElem_cons_succ, List.getElem_cons_zero, Act.put, List.setIfInBounds_toArray, List.set_cons_zero, List.set_cons_succ]
    refine wpAnyH_ready (rs := [10]) (by kernel_rfl) (by simp) ?_
    refine (AllReadyH.cons rfl (fun K hK => ?_) AllReadyH.nil)
    go_simp
    refine (T2.out _ HS5.out).mono ?_
    rintro r u10 ⟨rfl, hbq⟩
    have HS10 : Hid (Below W1.heap.size W1 u10) := HS5.out.trans (hbq.mono HS5.out.size)
    clear hbq
    refine hK.out _ _ HS10.out (fun hHeld => ?_)
    clear hK K
    try simp only [List.getElem_toArray, List.getElem_cons_succ, List.getElem_cons_zero, Act.put, List.setIfInBounds_toArray, List.set_cons_zero, List.set_cons_succ]
    refine wpAnyH_take (i := 11) (v := Value.bool (!b2)) rfl (by kernel_rfl) (by kernel_rfl) (by kernel_rfl) (fun _ _ _ h => h) (Or.inl ⟨rfl, fun w' hw' => ?_⟩) hHeld ?_
    · go_simp
    simp only [List.getElem_toArray, List.getElem_cons_succ, List.getElem_cons_zero, Act.put, List.setIfInBounds_toArray, List.set_cons_zero, List.set_cons_succ]
    refine wpAnyH_take (i := 12) (v := Value.bool (!b2)) rfl (by kernel_rfl) (by kernel_rfl) (by kernel_rfl) (fun _ _ _ h => h) (Or.inl ⟨rfl, fun w' hw' => ?_⟩) hHeld ?_
    · go_simp
    simp only [List.getElem_toArray, List.getElem_cons_succ, List.getElem_cons_zero, Act.put, List.setIfInBounds_toArray, List.set_cons_zero, List.set_cons_succ]
    refine wpAnyH_take (i := 13) (v := Value.bool (!b2)) rfl (by kernel_rfl) (by kernel_rfl) (by kernel_rfl) (fun _ _ _ h => h) (Or.inl ⟨rfl, fun w' hw' => ?_⟩) hHeld ?_
    · go_simp
    simp only [List.getElem_toArray, List.getElem_cons_succ, List.getElem_cons_zero, Act.put, List.setIfInBounds_toArray, List.set_cons_zero, List.set_cons_succ]
    refine wpAnyH_done (by kernel_rfl) ?_ _
    refine NoPanic.normal ?_
    clear hHeld
    have HD := Lib.hid (HB.out.trans (HS10.out.mono HB.out.size))
    go_wp2_with fail
    go_ret
    exact ⟨rfl, HD.out⟩
  · skip
    refine wpAnyH_take (i := 6) (v := Value.bool false) rfl (by kernel_rfl) (by kernel_rfl) (by kernel_rfl) (fun _ _ _ h => h) (Or.inl ⟨rfl, fun w' hw' => ?_⟩) hHeld ?_
    · go_simp
    simp only [List.getElem_toArray, List.getElem_cons_succ, List.getElem_cons_zero, Act.put, List.setIfInBounds_toArray, List.set_cons_zero, List.set_cons_succ]
    refine wpAnyH_take (i := 7) (v := Value.bool false) rfl (by kernel_rfl) (by kernel_rfl) (by kernel_rfl) (fun _ _ _ h => h) (Or.inl ⟨rfl, fun w' hw' => ?_⟩) hHeld ?_
    · go_simp
    simp only [List.getElem_toArray, List.getElem_cons_succ, List.getElem_cons_zero, Act.put, List.setIfInBounds_toArray, List.set_cons_zero, List.set_cons_succ]
    refine wpAnyH_take (i := 8) (v := undef) rfl (by kernel_rfl) (by kernel_rfl) (by kernel_rfl) (fun _ _ _ h => h) (Or.inr ⟨rfl, rfl⟩) hHeld ?_
    simp only [List.getElem_toArray, List.getElem_cons_succ, List.getElem_cons_zero, Act.put, List.setIfInBounds_toArray, List.set_cons_zero, List.set_cons_succ]
    refine wpAnyH_take (i := 9) (v := undef) rfl (by kernel_rfl) (by kernel_rfl) (by kernel_rfl) (fun _ _ _ h => h) (Or.inr ⟨rfl, rfl⟩) hHeld ?_
    simp only [List.getElem_toArray, List.getElem_cons_succ, List.getElem_cons_zero, Act.put, List.setIfInBounds_toArray, List.set_cons_zero, List.set_cons_succ]
    refine wpAnyH_take (i := 10) (v := undef) rfl (by kernel_rfl) (by kernel_rfl) (by kernel_rfl) (fun _ _ _ h => h) (Or.inr ⟨rfl, rfl⟩) hHeld ?_
    simp only [List.getElem_toArray, List.getElem_cons_succ, List.getElem_cons_zero, Act.put, List.setIfInBounds_toArray, List.set_cons_zero, List.set_cons_succ]
    refine wpAnyH_take (i := 11) (v := undef) rfl (by kernel_rfl) (by kernel_rfl) (by kernel_rfl) (fun _ _ _ h => h) (Or.inr ⟨rfl, rfl⟩) hHeld ?_
    simp only [List.getElem_toArray, List.getElem_cons_succ, List.getElem_cons_zero, Act.put, List.setIfInBounds_toArray, List.set_cons_zero, List.set_cons_succ]
    refine wpAnyH_take (i := 12) (v := Value.bool false) rfl (by kernel_rfl) (by kernel_rfl) (by kernel_rfl) (fun _ _ _ h => h) (Or.inl ⟨rfl, fun w' hw' => ?_⟩) hHeld ?_
    · go_simp
    simp only [List.getElem_toArray, List.getElem_cons_succ, List.getElem_cons_zero, Act.put, List.setIfInBounds_toArray, List.set_cons_zero, List.set_cons_succ]
    refine wpAnyH_take (i := 13) (v := Value.bool false) rfl (by kernel_rfl) (by kernel_rfl) (by kernel_rfl) (fun _ _ _ h => h) (Or.inl ⟨rfl, fun w' hw' => ?_⟩) hHeld ?_
    · go_simp
    simp only [List.getElem_toArray, List.getElem_cons_succ, List.getElem_cons_zero, Act.put, List.setIfInBounds_toArray, List.set_cons_zero, List.set_cons_succ]
    refine wpAnyH_done (by kernel_rfl) ?_ _
    refine NoPanic.normal ?_
    clear hHeld
    have HD := Lib.hid (HB.out.trans (HS5.out.mono HB.out.size))
    go_wp2_with fail
    go_ret
    exact ⟨rfl, HD.out⟩
theorem is_tree (N : Nat) : N ≤ 100000 → ∀ (e : Et), e.size ≤ N → e.fine → Tells 13 Et.is e := by
  induction N with
  | zero => intro _ e he; cases e; simp [Et.size] at he
  | succ N IH =>
    intro hN e he hf S cs w hat
    obtain ⟨k, t, ns, a⟩ := e
    have hsz : Et.sizes a ≤ N := by simp only [Et.size] at he; omega
    have hl := length_esizes a
    rw [fine_mk] at hf
    obtain ⟨hf1, hf2, hf3, hf4⟩ := hf
    have ih : ∀ e ∈ a, Tells 13 Et.is e := by
      intro e hm
      obtain ⟨j, hj, rfl⟩ := List.getElem_of_mem hm
      exact IH (by omega) _ (by have := esize_get a j hj; omega) (hf4 _ hm)
    rw [EAt_mk] at hat
    obtain ⟨nv, av, rfl, hm, hla⟩ := hat
    obtain ⟨no, nc, rfl⟩ := hm.form
    rcases hla with ⟨rfl, rfl⟩ | ⟨g, o, ac, arr, fz, rfl, h2, h3, h4, h5⟩
    · exact is_none k t ns (by omega) S no nc w
    · exact is_some k t ns a ih (by omega) (by omega) S no nc g o ac w (.inr ⟨g, o, ac, arr, fz, rfl, h2, h3, h4, h5⟩)
theorem is_any (e : Et) (hf : e.fine) (hs : e.size ≤ 100000) : Tells 13 Et.is e := is_tree e.size hs e (Nat.le_refl _) hf
end Go.Proofs.YtmcgocbkjdacaaaDoor
