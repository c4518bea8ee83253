/- The walk of NormAll. -/
import Derived.Test.YtmcgocbkjdacaaaDoorNK
import Derived.Test.YtmcgocbkjdacaaaDoorTM4
import Derived.Test.YtmcgocbkjdacaaaDoorRN2
import Derived.Test.YtmcgocbkjdacaaaDoorNI3
import Derived.Test.YtmcgocbkjdacaaaDoorNI2
import Derived.Test.YtmcgocbkjdacaaaDoorW18
namespace Go.Proofs.YtmcgocbkjdacaaaDoor
open Go.RowKit Go.BigM
set_option linter.unusedVariables false
set_option linter.unusedSimpArgs false
theorem wrap_in (z : Int) : I64 (IntKind.i64.wrap z) := by
  unfold I64
  rw [IntKind.wrap_i64]
  omega
theorem EAt_nodeL {S : Nat → Prop} {w : World} {k kd : Int} {t td : ByteArray} {ns : List ByteArray} {a : List Et} {nv av : Value} (h : Et.At S w (.mk k t ns a) #[.int .i64 kd, .string td, nv, av]) : kd = k ∧ td = t ∧ NAt S w nv ns ∧ AAt S w av a := by
  rw [EAt_mk] at h
  obtain ⟨nv', av', e, h1, h2⟩ := h
  simp only [Array.mk.injEq, List.cons.injEq, Value.int.injEq, Value.string.injEq, and_true, true_and] at e
  obtain ⟨rfl, rfl, rfl, rfl⟩ := e
  exact ⟨rfl, rfl, h1, h2⟩
/-- The term of the round lies at ge. -/
def ALoop (ge : Nat) (w : World) (iv : Value) (wr : World) : Prop :=
  ∃ (j : Nat) (d : Et) (cs : Array Value), j ≤ 5 ∧ iv = .int .i64 (j : Int) ∧ wr.heap[ge]? = some (.cells cs 28 (0, 0)) ∧ Et.At (fun x => x < ge) wr d cs ∧ d.fine ∧ d.size ≤ 400 ∧ Below w.heap.size w wr
set_option maxHeartbeats 8000000 in
set_option maxRecDepth 100000 in
theorem all_walk (l : List Rw) (ao0 : Option Addr) (cap : Nat) (at_ : Int) (w : World) (hR : RsAt w ao0 l) (hI : I64 at_) (ht : Tab w) : Calls Tryd.prog 3 #[.slice ao0 l.length cap, .int .i64 at_] w (RetBool true w) := by
  have K0 := Lib.hid (known_any w ht)
  have HR := Lib.hid hR
  have HTW := Lib.hid ht
  have HT := Lib.hid ht
  have HI := Lib.hid hI
  clear hR ht hI
  go_enter Tryd.func3, Tryd.ntmps3
  go_wp2_with fail
  refine K0.out.mono ?_
  rintro e w1 ⟨rfl, hb1⟩
  have HR1 := Lib.hid (HR.out.below hb1)
  have HB1 := Lib.hid hb1
  replace HT := Lib.hid (HT.out.below hb1)
  have HFE := Lib.hid (few_any l ao0 cap w1 HR1.out)
  clear hb1 K0
  go_wp2_with fail
  refine HFE.out.mono ?_
  rintro e w2 ⟨r, rfl, hr, rfl⟩
  cases r with
  | false =>
    go_wp2_with fail
    go_ret
    exact ⟨rfl, HB1.out⟩
  | true =>
    have HTM := Lib.hid (term_any l ao0 cap w1 HR1.out (hr rfl))
    clear hr HFE
    go_upto_region 5 with fail
    go_wp2_with fail
    refine HTM.out.mono ?_
    rintro e w5 ⟨cs, e, m', rfl, hat, hM, hsz, hm', hb5⟩
    obtain ⟨k0, t0, no0, nn0, nc0, ao1, an0, ac0, rfl⟩ := EAt_sl hat
    have z0 : (#[.int .i64 k0, .string t0, .slice no0 nn0 nc0, .slice ao1 an0 ac0] : Array Value).all (·.oneCell') = true := by simp [Value.oneCell']
    have hb5w : Below w.heap.size w w5 := HB1.out.trans (hb5.mono HB1.out.size)
    have A6 := (Below.refl w5.heap.size w5).alloc (Nat.le_refl _) (.cells #[.int .i64 k0, .string t0, .slice no0 nn0 nc0, .slice ao1 an0 ac0] 28)
    have HB6 := Lib.hid (hb5w.trans (A6.mono hb5w.size))
    have HAT := Lib.hid (Et.At.mono (T := fun x => x < w5.heap.size) (fun x hx => hx.2) _ _ (Et.At.keeps (Keeps.of_below A6) _ _ (Et.At.bound _ _ hat)))
    have hw5 : w.heap.size ≤ w5.heap.size := hb5w.size
    have HE0 : Hid (EB (w5.alloc (.cells #[.int .i64 k0, .string t0, .slice no0 nn0 nc0, .slice ao1 an0 ac0] 28)) w5.heap.size k0 t0 (.slice no0 nn0 nc0) (.slice ao1 an0 ac0)) := alloc_at _ _
    have HM := Lib.hid hM
    have HT6 := Lib.hid ((HT.out.below hb5).below A6)
    have hth := thick_lt e
    have hts : e.thick ≤ 400 := by omega
    clear hat hM hb5 hb5w A6 HTM HT hth
    go_upto_region 6 with (refine wpList_store_row rfl 28 _ _ rfl w5.heap.size #[.int .i64 k0, .string t0, .slice no0 nn0 nc0, .slice ao1 an0 ac0] rfl rfl 28 Z4 (alloc_at _ _) info28 rfl z0 ?_)
    try simp only [Act.put]
    have EE : (w5.alloc (.cells #[.int .i64 0, .string ⟨#[]⟩, .slice none 0 0, .slice none 0 0] 28)).setRow w5.heap.size #[.int .i64 k0, .string t0, .slice no0 nn0 nc0, .slice ao1 an0 ac0] = w5.alloc (.cells #[.int .i64 k0, .string t0, .slice no0 nn0 nc0, .slice ao1 an0 ac0] 28) := setRow_new _ _ _ _
    try rw [EE]
    clear EE
    generalize w5.alloc (.cells #[.int .i64 k0, .string t0, .slice no0 nn0 nc0, .slice ao1 an0 ac0] 28) = W6 at HB6 HAT HE0 HT6 ⊢
    generalize w5.heap.size = ge at HE0 HAT hw5 ⊢
    go_wp2_with fail
    go_loopw [6] (fun iv wr => ALoop ge w iv wr) (fun iv _ => 5 - (intOf iv).toNat)
    case atStart => exact ⟨0, e, _, by omega, rfl, HE0.out, HAT.out, HM.out.fine, hsz, HB6.out⟩
    case round =>
      obtain ⟨j, d, cs, hj, rfl, hrow, hatd, hfd, hsd, hbel⟩ := hrel
      clear HE0 HAT HM hsz hts HB6
      obtain ⟨k2, t2, no2, nn2, nc2, ao3, an2, ac2, rfl⟩ := EAt_sl hatd
      have HRO : Hid (EB wr ge k2 t2 (.slice no2 nn2 nc2) (.slice ao3 an2 ac2)) := hrow
      have HAD := Lib.hid hatd
      have HFD := Lib.hid hfd
      have HBE := Lib.hid hbel
      have HTR := Lib.hid (HTW.out.below hbel)
      clear hrow hatd hfd hbel
      by_cases hj5 : j < 5
      · have q1 : decide ((j : Int) < 5) = true := decide_eq_true (by omega)
        have HC : Hid (∀ w', Below wr.heap.size wr w' → w'.cell? ⟨ge, 0, none⟩ = some (.int .i64 k2) ∧ w'.cell? ⟨ge, 1, none⟩ = some (.string t2) ∧ w'.cell? ⟨ge, 2, none⟩ = some (.slice no2 nn2 nc2) ∧ w'.cell? ⟨ge, 3, none⟩ = some (.slice ao3 an2 ac2)) := fun w' hw' => EB.cell w' ge _ _ _ _ (row_below hw' HRO.out)
        have hthd := thick_lt d
        obtain ⟨b, hb⟩ : ∃ b, d.is = b := ⟨_, rfl⟩
        have HIS : Hid (∀ w', Below wr.heap.size wr w' → Calls Tryd.prog 13 #[.agg #[.int .i64 k2, .string t2, .slice no2 nn2 nc2, .slice ao3 an2 ac2]] w' (RetBool b w')) := fun w' hw' => by
          have h := is_any d HFD.out (by omega) _ _ w' (Et.At.keeps (Keeps.of_below hw') _ _ HAD.out)
          rw [hb] at h; exact h
        have HRI : Hid (∀ w', Below wr.heap.size wr w' → Calls Tryd.prog 14 #[.agg #[.int .i64 k2, .string t2, .slice no2 nn2 nc2, .slice ao3 an2 ac2]] w' (RetBool b w')) := fun w' hw' => by
          have h := ris_any d HFD.out (by omega) _ _ w' (Et.At.keeps (Keeps.of_below hw') _ _ HAD.out)
          rw [hb] at h; exact h
        have HNO : Hid (∀ w', Below wr.heap.size wr w' → Calls Tryd.prog 16 #[.agg #[.int .i64 k2, .string t2, .slice no2 nn2 nc2, .slice ao3 an2 ac2]] w' (RetN d w')) := fun w' hw' => norm_any d HFD.out (by omega) (by omega) _ _ w' (Et.At.keeps (Keeps.of_below hw') _ _ HAD.out) (HTR.out.below hw')
        have HRN : Hid (∀ w', Below wr.heap.size wr w' → Calls Tryd.prog 17 #[.agg #[.int .i64 k2, .string t2, .slice no2 nn2 nc2, .slice ao3 an2 ac2]] w' (RetN d w')) := fun w' hw' => rnorm_any d HFD.out (by omega) (by omega) _ _ w' (Et.At.keeps (Keeps.of_below hw') _ _ HAD.out)
        have hxs := (nrm_f d 0).size
        have HXF := Lib.hid (nrm_fine d HFD.out 0 (by omega))
        clear hb
        go_upto_region 9 with fail
        have HS0 : Hid (Below wr.heap.size wr wr.drew) := (Below.refl _ _).drew
        refine wp_region_noPanic ?_
        refine wp_region_held_drew (S := Below wr.heap.size wr) (by kernel_rfl) HS0.out (fun hHeld => ?_)
        generalize wr.drew = X at HS0 hHeld ⊢
        refine wpAnyH_take (i := 0) (v := Value.agg #[.int .i64 k2, .string t2, .slice no2 nn2 nc2, .slice ao3 an2 ac2]) rfl (by kernel_rfl) (by kernel_rfl) (by kernel_rfl) (fun _ _ _ h => h) (Or.inl ⟨rfl, fun w' hw' => ?_⟩) hHeld ?_
        · obtain ⟨d0, d1, d2, d3⟩ := HC.out w' hw'; go_simp
        simp only [List.getElem_toArray, List.getElem_cons_succ, List.getElem_cons_zero, Act.put, List.setIfInBounds_toArray, List.set_cons_zero, List.set_cons_succ]
        refine wpAnyH_take (i := 2) (v := Value.agg #[.int .i64 k2, .string t2, .slice no2 nn2 nc2, .slice ao3 an2 ac2]) rfl (by kernel_rfl) (by kernel_rfl) (by kernel_rfl) (fun _ _ _ h => h) (Or.inl ⟨rfl, fun w' hw' => ?_⟩) hHeld ?_
        · obtain ⟨d0, d1, d2, d3⟩ := HC.out w' hw'; go_simp
        simp only [List.getElem_toArray, List.getElem_cons_succ, List.getElem_cons_zero, Act.put, List.setIfInBounds_toArray, List.set_cons_zero, List.set_cons_succ]
        refine wpAnyH_ready (rs := [1]) (by kernel_rfl) (by simp) ?_
        refine (AllReadyH.cons rfl (fun K hK => ?_) AllReadyH.nil)
        go_simp
        refine (HIS.out _ HS0.out).mono ?_
        rintro r u1 ⟨rfl, hbq⟩
        have HS1 : Hid (Below wr.heap.size wr u1) := HS0.out.trans (hbq.mono HS0.out.size)
        clear hbq
        refine hK.out _ _ HS1.out (fun hHeld => ?_)
        clear hK K
        try simp only [List.getElem_toArray, List.getElem_cons_succ, List.getElem_cons_zero, Act.put, List.setIfInBounds_toArray, List.set_cons_zero, List.set_cons_succ]
        refine wpAnyH_ready (rs := [3]) (by kernel_rfl) (by simp) ?_
        refine (AllReadyH.cons rfl (fun K hK => ?_) AllReadyH.nil)
        go_simp
        refine (HRI.out _ HS1.out).mono ?_
        rintro r u3 ⟨rfl, hbq⟩
        have HS3 : Hid (Below wr.heap.size wr u3) := HS1.out.trans (hbq.mono HS1.out.size)
        clear hbq
        refine hK.out _ _ HS3.out (fun hHeld => ?_)
        clear hK K
        try simp only [List.getElem_toArray, List.getElem_cons_succ, List.getElem_cons_zero, Act.put, List.setIfInBounds_toArray, List.set_cons_zero, List.set_cons_succ]
        refine wpAnyH_take (i := 4) (v := Value.bool false) rfl (by kernel_rfl) (by kernel_rfl) (by kernel_rfl) (fun _ _ _ h => h) (Or.inl ⟨rfl, fun w' hw' => ?_⟩) hHeld ?_
        · go_simp
        simp only [List.getElem_toArray, List.getElem_cons_succ, List.getElem_cons_zero, Act.put, List.setIfInBounds_toArray, List.set_cons_zero, List.set_cons_succ]
        refine wpAnyH_take (i := 5) (v := Value.bool false) rfl (by kernel_rfl) (by kernel_rfl) (by kernel_rfl) (fun _ _ _ h => h) (Or.inl ⟨rfl, fun w' hw' => ?_⟩) hHeld ?_
        · go_simp
        simp only [List.getElem_toArray, List.getElem_cons_succ, List.getElem_cons_zero, Act.put, List.setIfInBounds_toArray, List.set_cons_zero, List.set_cons_succ]
        refine wpAnyH_take (i := 6) (v := Value.agg #[.int .i64 k2, .string t2, .slice no2 nn2 nc2, .slice ao3 an2 ac2]) rfl (by kernel_rfl) (by kernel_rfl) (by kernel_rfl) (fun _ _ _ h => h) (Or.inl ⟨rfl, fun w' hw' => ?_⟩) hHeld ?_
        · obtain ⟨d0, d1, d2, d3⟩ := HC.out w' hw'; go_simp
        simp only [List.getElem_toArray, List.getElem_cons_succ, List.getElem_cons_zero, Act.put, List.setIfInBounds_toArray, List.set_cons_zero, List.set_cons_succ]
        refine wpAnyH_take (i := 8) (v := Value.agg #[.int .i64 k2, .string t2, .slice no2 nn2 nc2, .slice ao3 an2 ac2]) rfl (by kernel_rfl) (by kernel_rfl) (by kernel_rfl) (fun _ _ _ h => h) (Or.inl ⟨rfl, fun w' hw' => ?_⟩) hHeld ?_
        · obtain ⟨d0, d1, d2, d3⟩ := HC.out w' hw'; go_simp
        simp only [List.getElem_toArray, List.getElem_cons_succ, List.getElem_cons_zero, Act.put, List.setIfInBounds_toArray, List.set_cons_zero, List.set_cons_succ]
        refine wpAnyH_ready (rs := [7]) (by kernel_rfl) (by simp) ?_
        refine (AllReadyH.cons rfl (fun K hK => ?_) AllReadyH.nil)
        go_simp
        refine (HNO.out _ HS3.out).mono ?_
        rintro r u7 ⟨cs7, rfl, hat7, hbq⟩
        have HS7 : Hid (Below wr.heap.size wr u7) := HS3.out.trans (hbq.mono HS3.out.size)
        obtain ⟨k7, t7, no7, nn7, nc7, ao7, an7, ac7, rfl⟩ := EAt_sl hat7
        have HA7 := Lib.hid hat7
        clear hat7
        clear hbq
        refine hK.out _ _ HS7.out (fun hHeld => ?_)
        clear hK K
        try simp only [List.getElem_toArray, List.getElem_cons_succ, List.getElem_cons_zero, Act.put, List.setIfInBounds_toArray, List.set_cons_zero, List.set_cons_succ]
        refine wpAnyH_ready (rs := [9]) (by kernel_rfl) (by simp) ?_
        refine (AllReadyH.cons rfl (fun K hK => ?_) AllReadyH.nil)
        go_simp
        refine (HRN.out _ HS7.out).mono ?_
        rintro r u9 ⟨cs9, rfl, hat9, hbq⟩
        have HS9 : Hid (Below wr.heap.size wr u9) := HS7.out.trans (hbq.mono HS7.out.size)
        obtain ⟨k9, t9, no9, nn9, nc9, ao9, an9, ac9, rfl⟩ := EAt_sl hat9
        have HA9 := Lib.hid hat9
        have HA79 := Lib.hid (Et.At.keeps (Keeps.of_below hbq) _ _ HA7.out)
        have HSM := Lib.hid (same_any (d.nrm 0).2 (d.nrm 0).2 (by omega) HXF.out HXF.out _ _ _ _ u9 HA79.out HA9.out)
        have hss : Et.same (d.nrm 0).2 (d.nrm 0).2 = true := (same_iff _ _).2 rfl
        rw [hss] at HSM
        clear hat9 hss HA7 HA9 HA79
        clear hbq
        refine hK.out _ _ HS9.out (fun hHeld => ?_)
        clear hK K
        try simp only [List.getElem_toArray, List.getElem_cons_succ, List.getElem_cons_zero, Act.put, List.setIfInBounds_toArray, List.set_cons_zero, List.set_cons_succ]
        refine wpAnyH_ready (rs := [10]) (by kernel_rfl) (by simp) ?_
        refine (AllReadyH.cons rfl (fun K hK => ?_) AllReadyH.nil)
        go_simp
        refine (HSM.out).mono ?_
        rintro r u10 ⟨rfl, hbq⟩
        have HS10 : Hid (Below wr.heap.size wr u10) := HS9.out.trans (hbq.mono HS9.out.size)
        clear hbq
        refine hK.out _ _ HS10.out (fun hHeld => ?_)
        clear hK K
        try simp only [List.getElem_toArray, List.getElem_cons_succ, List.getElem_cons_zero, Act.put, List.setIfInBounds_toArray, List.set_cons_zero, List.set_cons_succ]
        refine wpAnyH_take (i := 11) (v := Value.bool false) rfl (by kernel_rfl) (by kernel_rfl) (by kernel_rfl) (fun _ _ _ h => h) (Or.inl ⟨rfl, fun w' hw' => ?_⟩) hHeld ?_
        · go_simp
        simp only [List.getElem_toArray, List.getElem_cons_succ, List.getElem_cons_zero, Act.put, List.setIfInBounds_toArray, List.set_cons_zero, List.set_cons_succ]
        refine wpAnyH_take (i := 12) (v := Value.bool false) rfl (by kernel_rfl) (by kernel_rfl) (by kernel_rfl) (fun _ _ _ h => h) (Or.inl ⟨rfl, fun w' hw' => ?_⟩) hHeld ?_
        · go_simp
        simp only [List.getElem_toArray, List.getElem_cons_succ, List.getElem_cons_zero, Act.put, List.setIfInBounds_toArray, List.set_cons_zero, List.set_cons_succ]
        refine wpAnyH_done (by kernel_rfl) ?_ _
        refine NoPanic.normal ?_
        clear hHeld
        have hw10 := HS10.out
        clear HIS HRI HNO HRN HXF HC hxs hthd
        have HR10 : Hid (EB u10 ge k2 t2 (.slice no2 nn2 nc2) (.slice ao3 an2 ac2)) := row_below hw10 HRO.out
        have HA10 := Lib.hid (Et.At.keeps (Keeps.of_below hw10) _ _ HAD.out)
        have HB10 := Lib.hid (HBE.out.trans (hw10.mono HBE.out.size))
        clear hw10 HRO HAD HBE HTR HS0 HS10 HS1 HS3 HS7 HS9
        obtain ⟨-, -, -, c3⟩ := EB.cell _ _ _ _ _ _ HR10.out
        obtain ⟨kd, td, ns, a⟩ := d
        have hat := HA10.out
        obtain ⟨rfl, rfl, hnv, hav⟩ := EAt_nodeL hat
        have hlen : a.length = an2 := by
          obtain ⟨ao9, ac9, e9⟩ := hav.form
          injection e9 with _ e9 _
          exact e9.symm
        have hf := HFD.out
        rw [fine_mk] at hf
        have HFA := Lib.hid hf.2.2.2
        have hsa : Et.sizes a ≤ 400 := by simp only [Et.size] at hsd; omega
        have hla := length_esizes a
        have HAV := Lib.hid hav
        have HLE := Lib.hid hlen
        have han : an2 ≤ 400 := by omega
        clear hat hnv hav hf hlen HA10 hsd hla
        by_cases h0 : an2 = 0
        · subst h0
          go_wp2_with fail
          go_ret
          exact ⟨rfl, HB10.out⟩
        · have q2 : decide (((an2 : Int)) = 0) = false := decide_eq_false (by omega)
          have q3 : ((an2 : Int) == 0) = false := by simpa using (by omega : ¬ (an2 : Int) = 0)
          obtain ⟨s, hs⟩ : ∃ s, s = IntKind.i64.wrap (at_ + (j : Int)) := ⟨_, rfl⟩
          have hsI : I64 s := by rw [hs]; exact wrap_in _
          have HSE := Lib.hid hs.symm
          have HWI : Hid (∀ w', Calls Tryd.prog 18 #[.int .i64 s, .int .i64 (an2 : Int)] w' (SomeR an2 w')) := fun w' => within18_some s an2 hsI (by omega) (by omega) w'
          have HC : Hid (∀ w', Below u10.heap.size u10 w' → w'.cell? ⟨ge, 0, none⟩ = some (.int .i64 k2) ∧ w'.cell? ⟨ge, 1, none⟩ = some (.string t2) ∧ w'.cell? ⟨ge, 2, none⟩ = some (.slice no2 nn2 nc2) ∧ w'.cell? ⟨ge, 3, none⟩ = some (.slice ao3 an2 ac2)) := fun w' hw' => EB.cell w' ge _ _ _ _ (row_below hw' HR10.out)
          clear hs hsI
          go_upto_region 13 with fail
          have HS0 : Hid (But u10.heap.size ge u10 u10.drew) := (But.refl _ _ _).drew
          have HSB : Hid (Below u10.heap.size u10 u10.drew) := (Below.refl _ _).drew
          refine wp_region_noPanic ?_
          refine wp_region_held_drew (S := fun w' => But u10.heap.size ge u10 w') (by kernel_rfl) HS0.out (fun hHeld => ?_)
          generalize u10.drew = X at HS0 HSB hHeld ⊢
          refine wpAnyH_take (i := 0) (v := Value.pointer (some ⟨ge, 3, none⟩)) rfl (by kernel_rfl) (by kernel_rfl) (by kernel_rfl) (fun _ _ _ h => h) (Or.inl ⟨rfl, fun w' hw' => ?_⟩) hHeld ?_
          · go_simp
          simp only [List.getElem_toArray, List.getElem_cons_succ, List.getElem_cons_zero, Act.put, List.setIfInBounds_toArray, List.set_cons_zero, List.set_cons_succ]
          refine wpAnyH_take (i := 2) (v := Value.int .i64 at_) rfl (by kernel_rfl) (by kernel_rfl) (by kernel_rfl) (fun _ _ _ h => h) (Or.inl ⟨rfl, fun w' hw' => ?_⟩) hHeld ?_
          · go_simp
          simp only [List.getElem_toArray, List.getElem_cons_succ, List.getElem_cons_zero, Act.put, List.setIfInBounds_toArray, List.set_cons_zero, List.set_cons_succ]
          refine wpAnyH_take (i := 3) (v := Value.int .i64 (j : Int)) rfl (by kernel_rfl) (by kernel_rfl) (by kernel_rfl) (fun _ _ _ h => h) (Or.inl ⟨rfl, fun w' hw' => ?_⟩) hHeld ?_
          · go_simp
          simp only [List.getElem_toArray, List.getElem_cons_succ, List.getElem_cons_zero, Act.put, List.setIfInBounds_toArray, List.set_cons_zero, List.set_cons_succ]
          refine wpAnyH_take (i := 4) (v := Value.int .i64 s) rfl (by kernel_rfl) (by kernel_rfl) (by kernel_rfl) (fun _ _ _ h => h) (Or.inl ⟨rfl, fun w' hw' => ?_⟩) hHeld ?_
          · have he := HSE.out; go_simp
          simp only [List.getElem_toArray, List.getElem_cons_succ, List.getElem_cons_zero, Act.put, List.setIfInBounds_toArray, List.set_cons_zero, List.set_cons_succ]
          refine wpAnyH_take (i := 5) (v := Value.pointer (some ⟨ge, 3, none⟩)) rfl (by kernel_rfl) (by kernel_rfl) (by kernel_rfl) (fun _ _ _ h => h) (Or.inl ⟨rfl, fun w' hw' => ?_⟩) hHeld ?_
          · go_simp
          simp only [List.getElem_toArray, List.getElem_cons_succ, List.getElem_cons_zero, Act.put, List.setIfInBounds_toArray, List.set_cons_zero, List.set_cons_succ]
          refine wpAnyH_ready (rs := [1, 6]) (by kernel_rfl) (by simp) ?_
          refine (AllReadyH.cons rfl (fun K hK => ?_) (AllReadyH.cons rfl (fun K hK => ?_) AllReadyH.nil))
          · skip
            obtain ⟨x0, x1, x2, x3⟩ := HC.out X HSB.out
            go_simp
            clear x0 x1 x2 x3
            refine hK.out _ _ HS0.out (fun hHeld => ?_)
            clear hK K
            try simp only [List.getElem_toArray, List.getElem_cons_succ, List.getElem_cons_zero, Act.put, List.setIfInBounds_toArray, List.set_cons_zero, List.set_cons_succ]
            refine wpAnyH_ready (rs := [6]) (by kernel_rfl) (by simp) ?_
            refine (AllReadyH.cons rfl (fun K hK => ?_) AllReadyH.nil)
            obtain ⟨x0, x1, x2, x3⟩ := HC.out X HSB.out
            go_simp
            clear x0 x1 x2 x3
            refine hK.out _ _ HS0.out (fun hHeld => ?_)
            clear hK K
            try simp only [List.getElem_toArray, List.getElem_cons_succ, List.getElem_cons_zero, Act.put, List.setIfInBounds_toArray, List.set_cons_zero, List.set_cons_succ]
            refine wpAnyH_take (i := 7) (v := Value.int .i64 (an2 : Int)) rfl (by kernel_rfl) (by kernel_rfl) (by kernel_rfl) (fun _ _ _ h => h) (Or.inl ⟨rfl, fun w' hw' => ?_⟩) hHeld ?_
            · go_simp
            simp only [List.getElem_toArray, List.getElem_cons_succ, List.getElem_cons_zero, Act.put, List.setIfInBounds_toArray, List.set_cons_zero, List.set_cons_succ]
            refine wpAnyH_ready (rs := [8]) (by kernel_rfl) (by simp) ?_
            refine (AllReadyH.cons rfl (fun K hK => ?_) AllReadyH.nil)
            go_simp
            refine (HWI.out X).mono ?_
            rintro rr u8 ⟨r, hr, rfl, rfl⟩
            refine hK.out _ _ HS0.out (fun hHeld => ?_)
            clear hK K
            try simp only [List.getElem_toArray, List.getElem_cons_succ, List.getElem_cons_zero, Act.put, List.setIfInBounds_toArray, List.set_cons_zero, List.set_cons_succ]
            have hra : r < a.length := by rw [HLE.out]; exact hr
            have hav := AAt.keeps HAV.out (Keeps.of_below HSB.out)
            have hav2 : AAt (fun x => x < ge) X (.slice ao3 an2 ac2) a := hav
            obtain ⟨gv, ov, k3, t3, nv3, av3, rfl, hSg, -, hat3, e0, e1, e2, e3, -, -⟩ := hav2.get r hra
            obtain ⟨no3, nn3, nc3, ao4, an3, ac3, rfl, rfl⟩ : ∃ nod nnd ncd aod ad cd, nv3 = .slice nod nnd ncd ∧ av3 = .slice aod ad cd := by
              obtain ⟨k3, t3, no2, nn2, nc2, ao4, an2, ac2, e4⟩ := EAt_sl hat3
              simp only [Array.mk.injEq, List.cons.injEq, Value.int.injEq, Value.string.injEq, and_true, true_and] at e4
              exact ⟨_, _, _, _, _, _, e4.2.2.1, e4.2.2.2⟩
            have hgv : gv ≠ ge := by have : gv < ge := hSg; omega
            have hXs : X.heap.size = X.heap.size := rfl
            have b0 := World.block_lt_of_cell? X _ e0
            have HS9 := HS0
            refine wpAnyH_take (i := 9) (v := Value.pointer (some ⟨gv, ov + r * 4, none⟩)) rfl (by kernel_rfl) (by kernel_rfl) (by kernel_rfl) (fun _ _ _ h => h) (Or.inl ⟨rfl, fun w' hw' => ?_⟩) hHeld ?_
            · go_simp
            simp only [List.getElem_toArray, List.getElem_cons_succ, List.getElem_cons_zero, Act.put, List.setIfInBounds_toArray, List.set_cons_zero, List.set_cons_succ]
            refine wpAnyH_ready (rs := [10]) (by kernel_rfl) (by simp) ?_
            refine (AllReadyH.cons rfl (fun K hK => ?_) AllReadyH.nil)
            go_simp
            clear e0 e1 e2 e3
            refine hK.out _ _ HS0.out (fun hHeld => ?_)
            clear hK K
            try simp only [List.getElem_toArray, List.getElem_cons_succ, List.getElem_cons_zero, Act.put, List.setIfInBounds_toArray, List.set_cons_zero, List.set_cons_succ]
            have hrowX : EB X ge k2 t2 (.slice no2 nn2 nc2) (.slice (some ⟨gv, ov, none⟩) an2 ac2) := row_below HSB.out HR10.out
            have HRX := Lib.hid hrowX
            have z3 : (#[.int .i64 k3, .string t3, .slice no3 nn3 nc3, .slice ao4 an3 ac3] : Array Value).all (·.oneCell') = true := by simp [Value.oneCell']
            have HST : Hid (But u10.heap.size ge u10 (X.setRow ge #[.int .i64 k3, .string t3, .slice no3 nn3 nc3, .slice ao4 an3 ac3])) := HS0.out.trans ⟨rfl, rfl, rfl, by simp, fun x hx hne => setRow_other X ge x _ hne⟩
            have hes := esize_get a r hra
            have HFIN : Hid (ALoop ge w (.int .i64 ((j : Int) + 1)) (X.setRow ge #[.int .i64 k3, .string t3, .slice no3 nn3 nc3, .slice ao4 an3 ac3])) := ⟨j + 1, a[r], #[.int .i64 k3, .string t3, .slice no3 nn3 nc3, .slice ao4 an3 ac3], by omega, by go_num, setRow_heap X _ _ _ 28 _ HRX.out, Et.At.keeps (S := fun x => x < ge) (fun x c T fz hs hx _ => ⟨fz, by rw [setRow_other X ge x _ (by have : x < ge := hs; omega)]; exact hx⟩) _ _ hat3, HFA.out _ (List.getElem_mem hra), by omega, (HB10.out.trans (HSB.out.mono HB10.out.size)).trans ⟨rfl, rfl, rfl, by simp, fun x hx => setRow_other X ge x _ (by omega)⟩⟩
            clear hrowX hat3 hav hav2 hes hSg hgv b0 hXs
            refine wpAnyH_ready (rs := [11]) (by kernel_rfl) (by simp) ?_
            refine (AllReadyH.cons rfl (fun K hK => ?_) AllReadyH.nil)
            refine wp_store_row 28 _ _ rfl ge #[.int .i64 k3, .string t3, .slice no3 nn3 nc3, .slice ao4 an3 ac3] (by go_simp) rfl 28 _ HRX.out info28 rfl z3 ?_
            refine hK.out _ _ HST.out (fun hHeld => ?_)
            clear hK K
            try simp only [List.getElem_toArray, List.getElem_cons_succ, List.getElem_cons_zero, Act.put, List.setIfInBounds_toArray, List.set_cons_zero, List.set_cons_succ]
            refine wpAnyH_done (by kernel_rfl) ?_ _
            refine NoPanic.normal ?_
            clear hHeld
            generalize X.setRow ge #[.int .i64 k3, .string t3, .slice no3 nn3 nc3, .slice ao4 an3 ac3] = w12 at HFIN ⊢
            clear HST HRX HSB HS0 HC HWI HSE HAV HLE HFA HR10 HB10 HS9 c3
            go_wp2_with fail
            go_roundw
            case rel => exact HFIN.out
            case measure => simp [intOf]; omega
          · skip
            obtain ⟨x0, x1, x2, x3⟩ := HC.out X HSB.out
            go_simp
            clear x0 x1 x2 x3
            refine hK.out _ _ HS0.out (fun hHeld => ?_)
            clear hK K
            try simp only [List.getElem_toArray, List.getElem_cons_succ, List.getElem_cons_zero, Act.put, List.setIfInBounds_toArray, List.set_cons_zero, List.set_cons_succ]
            refine wpAnyH_take (i := 7) (v := Value.int .i64 (an2 : Int)) rfl (by kernel_rfl) (by kernel_rfl) (by kernel_rfl) (fun _ _ _ h => h) (Or.inl ⟨rfl, fun w' hw' => ?_⟩) hHeld ?_
            · go_simp
            simp only [List.getElem_toArray, List.getElem_cons_succ, List.getElem_cons_zero, Act.put, List.setIfInBounds_toArray, List.set_cons_zero, List.set_cons_succ]
            refine wpAnyH_ready (rs := [1, 8]) (by kernel_rfl) (by simp) ?_
            refine (AllReadyH.cons rfl (fun K hK => ?_) (AllReadyH.cons rfl (fun K hK => ?_) AllReadyH.nil))
            · skip
              obtain ⟨x0, x1, x2, x3⟩ := HC.out X HSB.out
              go_simp
              clear x0 x1 x2 x3
              refine hK.out _ _ HS0.out (fun hHeld => ?_)
              clear hK K
              try simp only [List.getElem_toArray, List.getElem_cons_succ, List.getElem_cons_zero, Act.put, List.setIfInBounds_toArray, List.set_cons_zero, List.set_cons_succ]
              refine wpAnyH_ready (rs := [8]) (by kernel_rfl) (by simp) ?_
              refine (AllReadyH.cons rfl (fun K hK => ?_) AllReadyH.nil)
              go_simp
              refine (HWI.out X).mono ?_
              rintro rr u8 ⟨r, hr, rfl, rfl⟩
              refine hK.out _ _ HS0.out (fun hHeld => ?_)
              clear hK K
              try simp only [List.getElem_toArray, List.getElem_cons_succ, List.getElem_cons_zero, Act.put, List.setIfInBounds_toArray, List.set_cons_zero, List.set_cons_succ]
              have hra : r < a.length := by rw [HLE.out]; exact hr
              have hav := AAt.keeps HAV.out (Keeps.of_below HSB.out)
              have hav2 : AAt (fun x => x < ge) X (.slice ao3 an2 ac2) a := hav
              obtain ⟨gv, ov, k3, t3, nv3, av3, rfl, hSg, -, hat3, e0, e1, e2, e3, -, -⟩ := hav2.get r hra
              obtain ⟨no3, nn3, nc3, ao4, an3, ac3, rfl, rfl⟩ : ∃ nod nnd ncd aod ad cd, nv3 = .slice nod nnd ncd ∧ av3 = .slice aod ad cd := by
                obtain ⟨k3, t3, no2, nn2, nc2, ao4, an2, ac2, e4⟩ := EAt_sl hat3
                simp only [Array.mk.injEq, List.cons.injEq, Value.int.injEq, Value.string.injEq, and_true, true_and] at e4
                exact ⟨_, _, _, _, _, _, e4.2.2.1, e4.2.2.2⟩
              have hgv : gv ≠ ge := by have : gv < ge := hSg; omega
              have hXs : X.heap.size = X.heap.size := rfl
              have b0 := World.block_lt_of_cell? X _ e0
              have HS9 := HS0
              refine wpAnyH_take (i := 9) (v := Value.pointer (some ⟨gv, ov + r * 4, none⟩)) rfl (by kernel_rfl) (by kernel_rfl) (by kernel_rfl) (fun _ _ _ h => h) (Or.inl ⟨rfl, fun w' hw' => ?_⟩) hHeld ?_
              · go_simp
              simp only [List.getElem_toArray, List.getElem_cons_succ, List.getElem_cons_zero, Act.put, List.setIfInBounds_toArray, List.set_cons_zero, List.set_cons_succ]
              refine wpAnyH_ready (rs := [10]) (by kernel_rfl) (by simp) ?_
              refine (AllReadyH.cons rfl (fun K hK => ?_) AllReadyH.nil)
              go_simp
              clear e0 e1 e2 e3
              refine hK.out _ _ HS0.out (fun hHeld => ?_)
              clear hK K
              try simp only [List.getElem_toArray, List.getElem_cons_succ, List.getElem_cons_zero, Act.put, List.setIfInBounds_toArray, List.set_cons_zero, List.set_cons_succ]
              have hrowX : EB X ge k2 t2 (.slice no2 nn2 nc2) (.slice (some ⟨gv, ov, none⟩) an2 ac2) := row_below HSB.out HR10.out
              have HRX := Lib.hid hrowX
              have z3 : (#[.int .i64 k3, .string t3, .slice no3 nn3 nc3, .slice ao4 an3 ac3] : Array Value).all (·.oneCell') = true := by simp [Value.oneCell']
              have HST : Hid (But u10.heap.size ge u10 (X.setRow ge #[.int .i64 k3, .string t3, .slice no3 nn3 nc3, .slice ao4 an3 ac3])) := HS0.out.trans ⟨rfl, rfl, rfl, by simp, fun x hx hne => setRow_other X ge x _ hne⟩
              have hes := esize_get a r hra
              have HFIN : Hid (ALoop ge w (.int .i64 ((j : Int) + 1)) (X.setRow ge #[.int .i64 k3, .string t3, .slice no3 nn3 nc3, .slice ao4 an3 ac3])) := ⟨j + 1, a[r], #[.int .i64 k3, .string t3, .slice no3 nn3 nc3, .slice ao4 an3 ac3], by omega, by go_num, setRow_heap X _ _ _ 28 _ HRX.out, Et.At.keeps (S := fun x => x < ge) (fun x c T fz hs hx _ => ⟨fz, by rw [setRow_other X ge x _ (by have : x < ge := hs; omega)]; exact hx⟩) _ _ hat3, HFA.out _ (List.getElem_mem hra), by omega, (HB10.out.trans (HSB.out.mono HB10.out.size)).trans ⟨rfl, rfl, rfl, by simp, fun x hx => setRow_other X ge x _ (by omega)⟩⟩
              clear hrowX hat3 hav hav2 hes hSg hgv b0 hXs
              refine wpAnyH_ready (rs := [11]) (by kernel_rfl) (by simp) ?_
              refine (AllReadyH.cons rfl (fun K hK => ?_) AllReadyH.nil)
              refine wp_store_row 28 _ _ rfl ge #[.int .i64 k3, .string t3, .slice no3 nn3 nc3, .slice ao4 an3 ac3] (by go_simp) rfl 28 _ HRX.out info28 rfl z3 ?_
              refine hK.out _ _ HST.out (fun hHeld => ?_)
              clear hK K
              try simp only [List.getElem_toArray, List.getElem_cons_succ, List.getElem_cons_zero, Act.put, List.setIfInBounds_toArray, List.set_cons_zero, List.set_cons_succ]
              refine wpAnyH_done (by kernel_rfl) ?_ _
              refine NoPanic.normal ?_
              clear hHeld
              generalize X.setRow ge #[.int .i64 k3, .string t3, .slice no3 nn3 nc3, .slice ao4 an3 ac3] = w12 at HFIN ⊢
              clear HST HRX HSB HS0 HC HWI HSE HAV HLE HFA HR10 HB10 HS9 c3
              go_wp2_with fail
              go_roundw
              case rel => exact HFIN.out
              case measure => simp [intOf]; omega
            · skip
              go_simp
              refine (HWI.out X).mono ?_
              rintro rr u8 ⟨r, hr, rfl, rfl⟩
              refine hK.out _ _ HS0.out (fun hHeld => ?_)
              clear hK K
              try simp only [List.getElem_toArray, List.getElem_cons_succ, List.getElem_cons_zero, Act.put, List.setIfInBounds_toArray, List.set_cons_zero, List.set_cons_succ]
              refine wpAnyH_ready (rs := [1]) (by kernel_rfl) (by simp) ?_
              refine (AllReadyH.cons rfl (fun K hK => ?_) AllReadyH.nil)
              obtain ⟨x0, x1, x2, x3⟩ := HC.out X HSB.out
              go_simp
              clear x0 x1 x2 x3
              refine hK.out _ _ HS0.out (fun hHeld => ?_)
              clear hK K
              try simp only [List.getElem_toArray, List.getElem_cons_succ, List.getElem_cons_zero, Act.put, List.setIfInBounds_toArray, List.set_cons_zero, List.set_cons_succ]
              have hra : r < a.length := by rw [HLE.out]; exact hr
              have hav := AAt.keeps HAV.out (Keeps.of_below HSB.out)
              have hav2 : AAt (fun x => x < ge) X (.slice ao3 an2 ac2) a := hav
              obtain ⟨gv, ov, k3, t3, nv3, av3, rfl, hSg, -, hat3, e0, e1, e2, e3, -, -⟩ := hav2.get r hra
              obtain ⟨no3, nn3, nc3, ao4, an3, ac3, rfl, rfl⟩ : ∃ nod nnd ncd aod ad cd, nv3 = .slice nod nnd ncd ∧ av3 = .slice aod ad cd := by
                obtain ⟨k3, t3, no2, nn2, nc2, ao4, an2, ac2, e4⟩ := EAt_sl hat3
                simp only [Array.mk.injEq, List.cons.injEq, Value.int.injEq, Value.string.injEq, and_true, true_and] at e4
                exact ⟨_, _, _, _, _, _, e4.2.2.1, e4.2.2.2⟩
              have hgv : gv ≠ ge := by have : gv < ge := hSg; omega
              have hXs : X.heap.size = X.heap.size := rfl
              have b0 := World.block_lt_of_cell? X _ e0
              have HS9 := HS0
              refine wpAnyH_take (i := 9) (v := Value.pointer (some ⟨gv, ov + r * 4, none⟩)) rfl (by kernel_rfl) (by kernel_rfl) (by kernel_rfl) (fun _ _ _ h => h) (Or.inl ⟨rfl, fun w' hw' => ?_⟩) hHeld ?_
              · go_simp
              simp only [List.getElem_toArray, List.getElem_cons_succ, List.getElem_cons_zero, Act.put, List.setIfInBounds_toArray, List.set_cons_zero, List.set_cons_succ]
              refine wpAnyH_ready (rs := [10]) (by kernel_rfl) (by simp) ?_
              refine (AllReadyH.cons rfl (fun K hK => ?_) AllReadyH.nil)
              go_simp
              clear e0 e1 e2 e3
              refine hK.out _ _ HS0.out (fun hHeld => ?_)
              clear hK K
              try simp only [List.getElem_toArray, List.getElem_cons_succ, List.getElem_cons_zero, Act.put, List.setIfInBounds_toArray, List.set_cons_zero, List.set_cons_succ]
              have hrowX : EB X ge k2 t2 (.slice no2 nn2 nc2) (.slice (some ⟨gv, ov, none⟩) an2 ac2) := row_below HSB.out HR10.out
              have HRX := Lib.hid hrowX
              have z3 : (#[.int .i64 k3, .string t3, .slice no3 nn3 nc3, .slice ao4 an3 ac3] : Array Value).all (·.oneCell') = true := by simp [Value.oneCell']
              have HST : Hid (But u10.heap.size ge u10 (X.setRow ge #[.int .i64 k3, .string t3, .slice no3 nn3 nc3, .slice ao4 an3 ac3])) := HS0.out.trans ⟨rfl, rfl, rfl, by simp, fun x hx hne => setRow_other X ge x _ hne⟩
              have hes := esize_get a r hra
              have HFIN : Hid (ALoop ge w (.int .i64 ((j : Int) + 1)) (X.setRow ge #[.int .i64 k3, .string t3, .slice no3 nn3 nc3, .slice ao4 an3 ac3])) := ⟨j + 1, a[r], #[.int .i64 k3, .string t3, .slice no3 nn3 nc3, .slice ao4 an3 ac3], by omega, by go_num, setRow_heap X _ _ _ 28 _ HRX.out, Et.At.keeps (S := fun x => x < ge) (fun x c T fz hs hx _ => ⟨fz, by rw [setRow_other X ge x _ (by have : x < ge := hs; omega)]; exact hx⟩) _ _ hat3, HFA.out _ (List.getElem_mem hra), by omega, (HB10.out.trans (HSB.out.mono HB10.out.size)).trans ⟨rfl, rfl, rfl, by simp, fun x hx => setRow_other X ge x _ (by omega)⟩⟩
              clear hrowX hat3 hav hav2 hes hSg hgv b0 hXs
              refine wpAnyH_ready (rs := [11]) (by kernel_rfl) (by simp) ?_
              refine (AllReadyH.cons rfl (fun K hK => ?_) AllReadyH.nil)
              refine wp_store_row 28 _ _ rfl ge #[.int .i64 k3, .string t3, .slice no3 nn3 nc3, .slice ao4 an3 ac3] (by go_simp) rfl 28 _ HRX.out info28 rfl z3 ?_
              refine hK.out _ _ HST.out (fun hHeld => ?_)
              clear hK K
              try simp only [List.getElem_toArray, List.getElem_cons_succ, List.getElem_cons_zero, Act.put, List.setIfInBounds_toArray, List.set_cons_zero, List.set_cons_succ]
              refine wpAnyH_done (by kernel_rfl) ?_ _
              refine NoPanic.normal ?_
              clear hHeld
              generalize X.setRow ge #[.int .i64 k3, .string t3, .slice no3 nn3 nc3, .slice ao4 an3 ac3] = w12 at HFIN ⊢
              clear HST HRX HSB HS0 HC HWI HSE HAV HLE HFA HR10 HB10 HS9 c3
              go_wp2_with fail
              go_roundw
              case rel => exact HFIN.out
              case measure => simp [intOf]; omega
      · have q1 : decide ((j : Int) < 5) = false := decide_eq_false (by omega)
        go_wp2_with fail
        go_ret
        exact ⟨rfl, HBE.out⟩
end Go.Proofs.YtmcgocbkjdacaaaDoor
