/- The walk of NormCounts. -/
import Derived.Test.YtmcgocbkjdacaaaDoorNK
import Derived.Test.YtmcgocbkjdacaaaDoorTM4
import Derived.Test.YtmcgocbkjdacaaaDoorNBd
import Derived.Test.YtmcgocbkjdacaaaDoorTH
import Derived.Test.YtmcgocbkjdacaaaDoorS1
namespace Go.Proofs.YtmcgocbkjdacaaaDoor
open Go.RowKit Go.BigM
set_option linter.unusedVariables false
set_option linter.unusedSimpArgs false
def CtInv (b : List ByteArray) (w : World) (kv iv : Value) (wr : World) : Prop :=
  ∃ i n : Nat, i ≤ b.length ∧ iv = .int .i64 (i : Int) ∧ kv = .int .i64 (n : Int) ∧ n = (b.take i).countP isP ∧ Below w.heap.size w wr
theorem isP_size (s : ByteArray) (h : ¬ 0 < s.size) : isP s = false := by
  unfold isP; simp [h]
theorem head_get (s : ByteArray) (h : 0 < s.size) : ∃ c, s.data.toList[0]? = some c ∧ isP s = (c == 37) ∧ s.data[0]? = some c := by
  obtain ⟨d⟩ := s
  have h' : 0 < d.size := h
  refine ⟨d[0], by simp [h'], ?_, by simp [h']⟩
  unfold isP
  have h2 : d.toList.headD 0 = d[0] := by
    cases d with
    | mk l =>
      cases l with
      | nil => simp at h'
      | cons x l => rfl
  have h3 : decide (0 < (⟨d⟩ : ByteArray).size) = true := decide_eq_true h'
  rw [h2, h3, Bool.true_and]
theorem isP_get (s : ByteArray) (h : 0 < s.size) : (((s[0]'h).toNat : Int) == 37) = isP s := by
  obtain ⟨c, h1, h2, h3⟩ := head_get s h
  have hc : s[0]'h = c := by
    have e : s.data[0]? = some (s[0]'h) := Array.getElem?_eq_getElem (by exact h)
    rw [e] at h3; exact Option.some.inj h3
  rw [hc, h2]
  by_cases h5 : c = 37
  · subst h5; rfl
  · have h6 : ¬ ((c.toNat : Int) = 37) := fun e => h5 (UInt8.toNat_inj.1 (by show c.toNat = 37; omega))
    have h7 : (c == 37) = false := by simpa using h5
    rw [h7]; simpa using h6
theorem wsmall (x : Int) (h0 : 0 ≤ x) (h1 : x ≤ 1000000) : IntKind.i64.wrap x = x := by rw [IntKind.wrap_i64]; omega
set_option maxHeartbeats 8000000 in
set_option maxRecDepth 100000 in
theorem counts_walk (l : List Rw) (ao0 : Option Addr) (cap : Nat) (w : World) (hR : RsAt w ao0 l) (ht : Tab w) : Calls Tryd.prog 6 #[.slice ao0 l.length cap] w (RetBool true w) := by
  have K0 := Lib.hid (known_any w ht)
  have HR := Lib.hid hR
  have HT := Lib.hid ht
  clear hR ht
  go_enter Tryd.func6, Tryd.ntmps6
  go_wp2_with fail
  refine K0.out.mono ?_
  rintro e w1 ⟨rfl, hb1⟩
  have HR1 := Lib.hid (HR.out.below hb1)
  have HB1 := Lib.hid hb1
  replace HT := Lib.hid (HT.out.below hb1)
  have HFE := Lib.hid (few_any l ao0 cap w1 HR1.out)
  clear hb1 K0
  go_wp2_with fail
  refine HFE.out.mono ?_
  rintro e w2 ⟨r, rfl, hr, rfl⟩
  cases r with
  | false =>
    go_wp2_with fail
    go_ret
    exact ⟨rfl, HB1.out⟩
  | true =>
    have HTM := Lib.hid (term_any l ao0 cap w1 HR1.out (hr rfl))
    clear hr HFE
    go_upto_region 5 with fail
    go_wp2_with fail
    refine HTM.out.mono ?_
    rintro e w5 ⟨cs, e, m', rfl, hat, hM, hsz, hm', hb5⟩
    obtain ⟨k0, t0, no0, nn0, nc0, ao1, an0, ac0, rfl⟩ := EAt_sl hat
    have z0 : (#[.int .i64 k0, .string t0, .slice no0 nn0 nc0, .slice ao1 an0 ac0] : Array Value).all (·.oneCell') = true := by simp [Value.oneCell']
    have hb5w : Below w.heap.size w w5 := HB1.out.trans (hb5.mono HB1.out.size)
    have A6 := (Below.refl w5.heap.size w5).alloc (Nat.le_refl _) (.cells #[.int .i64 k0, .string t0, .slice no0 nn0 nc0, .slice ao1 an0 ac0] 28)
    have HB6 := Lib.hid (hb5w.trans (A6.mono hb5w.size))
    have HAT := Lib.hid (Et.At.mono (T := fun _ => True) (fun _ _ => trivial) _ _ (Et.At.keeps (Keeps.of_below A6) _ _ hat))
    have HE0 : Hid (EB (w5.alloc (.cells #[.int .i64 k0, .string t0, .slice no0 nn0 nc0, .slice ao1 an0 ac0] 28)) w5.heap.size k0 t0 (.slice no0 nn0 nc0) (.slice ao1 an0 ac0)) := alloc_at _ _
    have HM := Lib.hid hM
    have HT6 := Lib.hid ((HT.out.below hb5).below A6)
    have hth := thick_lt e
    have hts : e.thick ≤ 400 := by omega
    clear hat hM hb5 hb5w A6 HTM HT hth
    go_upto_region 6 with (refine wpList_store_row rfl 28 _ _ rfl w5.heap.size #[.int .i64 k0, .string t0, .slice no0 nn0 nc0, .slice ao1 an0 ac0] rfl rfl 28 Z4 (alloc_at _ _) info28 rfl z0 ?_)
    try simp only [Act.put]
    have EE : (w5.alloc (.cells #[.int .i64 0, .string ⟨#[]⟩, .slice none 0 0, .slice none 0 0] 28)).setRow w5.heap.size #[.int .i64 k0, .string t0, .slice no0 nn0 nc0, .slice ao1 an0 ac0] = w5.alloc (.cells #[.int .i64 k0, .string t0, .slice no0 nn0 nc0, .slice ao1 an0 ac0] 28) := setRow_new _ _ _ _
    try rw [EE]
    clear EE
    generalize w5.alloc (.cells #[.int .i64 k0, .string t0, .slice no0 nn0 nc0, .slice ao1 an0 ac0] 28) = W6 at HB6 HAT HE0 HT6 ⊢
    generalize w5.heap.size = ge at HE0 ⊢
    have HN := Lib.hid (norm_any e HM.out.fine (by omega) (by omega) _ _ W6 HAT.out HT6.out)
    go_wp2_with (refine wpList_load_row rfl 28 _ rfl ge rfl 28 #[.int .i64 k0, .string t0, .slice no0 nn0 nc0, .slice ao1 an0 ac0] (0, 0) _ HE0.out Tryd.underlying28 rfl info28 ?_)
    refine HN.out.mono ?_
    rintro r w7 ⟨cs, rfl, hat7, hb7⟩
    obtain ⟨k1, t1, no1, nn1, nc1, ao2, an1, ac1, rfl⟩ := EAt_sl hat7
    have z1 : (#[.int .i64 k1, .string t1, .slice no1 nn1 nc1, .slice ao2 an1 ac1] : Array Value).all (·.oneCell') = true := by simp [Value.oneCell']
    have A8 := (Below.refl w7.heap.size w7).alloc (Nat.le_refl _) (.cells #[.int .i64 k1, .string t1, .slice no1 nn1 nc1, .slice ao2 an1 ac1] 28)
    have hb8 : Below W6.heap.size W6 (w7.alloc (.cells #[.int .i64 k1, .string t1, .slice no1 nn1 nc1, .slice ao2 an1 ac1] 28)) := hb7.trans (A8.mono hb7.size)
    have HB8 := Lib.hid (HB6.out.trans (hb8.mono HB6.out.size))
    have HAX := Lib.hid (Et.At.mono (T := fun _ => True) (fun _ _ => trivial) _ _ (Et.At.keeps (Keeps.of_below A8) _ _ hat7))
    replace HAT := Lib.hid (Et.At.keeps (Keeps.of_below hb8) _ _ HAT.out)
    have HX0 : Hid (EB (w7.alloc (.cells #[.int .i64 k1, .string t1, .slice no1 nn1 nc1, .slice ao2 an1 ac1] 28)) w7.heap.size k1 t1 (.slice no1 nn1 nc1) (.slice ao2 an1 ac1)) := alloc_at _ _
    replace HE0 : Hid (EB (w7.alloc (.cells #[.int .i64 k1, .string t1, .slice no1 nn1 nc1, .slice ao2 an1 ac1] 28)) ge k0 t0 (.slice no0 nn0 nc0) (.slice ao1 an0 ac0)) := row_below hb8 HE0.out
    have HT8 := Lib.hid (HT6.out.below hb8)
    have hxs := (nrm_f e 0).size
    have HXF := Lib.hid (nrm_fine e HM.out.fine 0 (by omega))
    have HNF := Lib.hid (nrm_f e 0)
    obtain ⟨x, hx⟩ : ∃ x, x = (e.nrm 0).2 := ⟨_, rfl⟩
    rw [← hx] at HAX hxs HXF
    have HXD := Lib.hid hx
    clear hat7 hb7 A8 hb8 HN HT6 HB6 hx
    go_upto_region 7 with (refine wpList_store_row rfl 28 _ _ rfl w7.heap.size #[.int .i64 k1, .string t1, .slice no1 nn1 nc1, .slice ao2 an1 ac1] rfl rfl 28 Z4 (alloc_at _ _) info28 rfl z1 ?_)
    try simp only [Act.put]
    have EE : (w7.alloc (.cells #[.int .i64 0, .string ⟨#[]⟩, .slice none 0 0, .slice none 0 0] 28)).setRow w7.heap.size #[.int .i64 k1, .string t1, .slice no1 nn1 nc1, .slice ao2 an1 ac1] = w7.alloc (.cells #[.int .i64 k1, .string t1, .slice no1 nn1 nc1, .slice ao2 an1 ac1] 28) := setRow_new _ _ _ _
    try rw [EE]
    clear EE
    generalize w7.alloc (.cells #[.int .i64 k1, .string t1, .slice no1 nn1 nc1, .slice ao2 an1 ac1] 28) = W8 at HB8 HAX HAT HX0 HE0 HT8 ⊢
    generalize w7.heap.size = gx at HX0 ⊢
    have HCE : Hid (∀ w', Below W8.heap.size W8 w' → w'.cell? ⟨ge, 0, none⟩ = some (.int .i64 k0) ∧ w'.cell? ⟨ge, 1, none⟩ = some (.string t0) ∧ w'.cell? ⟨ge, 2, none⟩ = some (.slice no0 nn0 nc0) ∧ w'.cell? ⟨ge, 3, none⟩ = some (.slice ao1 an0 ac0)) := fun w' hw' => EB.cell w' ge _ _ _ _ (row_below hw' HE0.out)
    have HCX : Hid (∀ w', Below W8.heap.size W8 w' → w'.cell? ⟨gx, 0, none⟩ = some (.int .i64 k1) ∧ w'.cell? ⟨gx, 1, none⟩ = some (.string t1) ∧ w'.cell? ⟨gx, 2, none⟩ = some (.slice no1 nn1 nc1) ∧ w'.cell? ⟨gx, 3, none⟩ = some (.slice ao2 an1 ac1)) := fun w' hw' => EB.cell w' gx _ _ _ _ (row_below hw' HX0.out)
    have hbt := HM.out.bnd
    have hml : m' ≤ 99 := hm'
    have HPM := Lib.hid (nrm_bnd e 0)
    have hcn := (nrm_f e 0).cnt
    have hbl : e.bnd.length = m' := by rw [hbt, nms_len]; omega
    have hxl : x.bnd.length = m' + e.thick := by
      have h := (nrm_bnd e 0).length_eq
      rw [List.length_append, pns_len, hcn, hbl] at h
      rw [HXD.out, h]; omega
    have hcp : x.bnd.countP isP = e.thick := by
      have h := (nrm_bnd e 0).countP_eq isP
      rw [List.countP_append, count_pns, hbt, count_nms, hcn] at h
      rw [HXD.out, h]; omega
    have HCP := Lib.hid hcp
    have HB1 : Hid (∀ w', Below W8.heap.size W8 w' → Calls Tryd.prog 22 #[.agg #[.int .i64 k0, .string t0, .slice no0 nn0 nc0, .slice ao1 an0 ac0], .slice none 0 0] w' (RetBd w'.heap.size e (.slice none 0 0) [] w')) := fun w' hw' => bound_any e HM.out.fine (by omega) _ _ w' w'.heap.size _ [] (Et.At.keeps (Keeps.of_below hw') _ _ HAT.out) (OwnN.nil _ _) (Nat.le_refl _) (fun x _ h => by cases h) (by rw [hbl]; simp; omega)
    have HB2 : Hid (∀ w', Below W8.heap.size W8 w' → Calls Tryd.prog 22 #[.agg #[.int .i64 k1, .string t1, .slice no1 nn1 nc1, .slice ao2 an1 ac1], .slice none 0 0] w' (RetBd w'.heap.size x (.slice none 0 0) [] w')) := fun w' hw' => bound_any x HXF.out (by omega) _ _ w' w'.heap.size _ [] (Et.At.keeps (Keeps.of_below hw') _ _ HAX.out) (OwnN.nil _ _) (Nat.le_refl _) (fun x _ h => by cases h) (by rw [hxl]; simp; omega)
    obtain ⟨bb, hbb⟩ : ∃ b, b = e.bnd := ⟨_, rfl⟩
    obtain ⟨xb, hxb⟩ : ∃ b, b = x.bnd := ⟨_, rfl⟩
    unfold RetBd at HB1 HB2
    rw [← hbb] at HB1 hbl
    rw [← hxb] at HB2 hxl HCP
    simp only [List.nil_append] at HB1 HB2
    have HLN : Hid (bb.length = m' ∧ xb.length = m' + e.thick) := ⟨hbl, hxl⟩
    clear hbt hcp hbb hxb HPM hcn hbl hxl
    have HS0 : Hid (Below W8.heap.size W8 W8.drew) := (Below.refl _ _).drew
    refine wp_region_noPanic ?_
    refine wp_region_held_drew (S := Below W8.heap.size W8) (by kernel_rfl) HS0.out (fun hHeld => ?_)
    generalize W8.drew = X at HS0 hHeld ⊢
    refine wpAnyH_take (i := 0) (v := Value.agg #[.int .i64 k0, .string t0, .slice no0 nn0 nc0, .slice ao1 an0 ac0]) rfl (by kernel_rfl) (by kernel_rfl) (by kernel_rfl) (fun _ _ _ h => h) (Or.inl ⟨rfl, fun w' hw' => ?_⟩) hHeld ?_
    · obtain ⟨d0, d1, d2, d3⟩ := HCE.out w' hw'; go_simp
    simp only [List.getElem_toArray, List.getElem_cons_succ, List.getElem_cons_zero, Act.put, List.setIfInBounds_toArray, List.set_cons_zero, List.set_cons_succ]
    refine wpAnyH_take (i := 2) (v := Value.agg #[.int .i64 k1, .string t1, .slice no1 nn1 nc1, .slice ao2 an1 ac1]) rfl (by kernel_rfl) (by kernel_rfl) (by kernel_rfl) (fun _ _ _ h => h) (Or.inl ⟨rfl, fun w' hw' => ?_⟩) hHeld ?_
    · obtain ⟨d0, d1, d2, d3⟩ := HCX.out w' hw'; go_simp
    simp only [List.getElem_toArray, List.getElem_cons_succ, List.getElem_cons_zero, Act.put, List.setIfInBounds_toArray, List.set_cons_zero, List.set_cons_succ]
    refine wpAnyH_ready (rs := [1]) (by kernel_rfl) (by simp) ?_
    refine (AllReadyH.cons rfl (fun K hK => ?_) AllReadyH.nil)
    go_simp
    refine (HB1.out _ HS0.out).mono ?_
    rintro r u1 ⟨v1, rfl, hown1, hg1, hn1⟩
    obtain ⟨bo1, bc1, rfl⟩ := own_form hown1
    have hbq : Below X.heap.size X u1 := ⟨hg1.os, hg1.tape, hg1.output, hg1.size, fun k hk => hg1.block k hk (fun e => by cases e)⟩
    have HS1 : Hid (Below W8.heap.size W8 u1) := HS0.out.trans (hbq.mono HS0.out.size)
    have HO1 := Lib.hid hown1
    clear hbq hg1 hn1 hown1
    refine hK.out _ _ HS1.out (fun hHeld => ?_)
    clear hK K
    try simp only [List.getElem_toArray, List.getElem_cons_succ, List.getElem_cons_zero, Act.put, List.setIfInBounds_toArray, List.set_cons_zero, List.set_cons_succ]
    refine wpAnyH_ready (rs := [3]) (by kernel_rfl) (by simp) ?_
    refine (AllReadyH.cons rfl (fun K hK => ?_) AllReadyH.nil)
    go_simp
    refine (HB2.out _ HS1.out).mono ?_
    rintro r u3 ⟨v3, rfl, hown3, hg3, hn3⟩
    obtain ⟨bo3, bc3, rfl⟩ := own_form hown3
    have hbq : Below u1.heap.size u1 u3 := ⟨hg3.os, hg3.tape, hg3.output, hg3.size, fun k hk => hg3.block k hk (fun e => by cases e)⟩
    have HS3 : Hid (Below W8.heap.size W8 u3) := HS1.out.trans (hbq.mono HS1.out.size)
    have HO3 := Lib.hid hown3
    clear hbq hg3 hn3 hown3
    refine hK.out _ _ HS3.out (fun hHeld => ?_)
    clear hK K
    try simp only [List.getElem_toArray, List.getElem_cons_succ, List.getElem_cons_zero, Act.put, List.setIfInBounds_toArray, List.set_cons_zero, List.set_cons_succ]
    refine wpAnyH_take (i := 4) (v := Value.slice bo1 bb.length bc1) rfl (by kernel_rfl) (by kernel_rfl) (by kernel_rfl) (fun _ _ _ h => h) (Or.inl ⟨rfl, fun w' hw' => ?_⟩) hHeld ?_
    · go_simp
    simp only [List.getElem_toArray, List.getElem_cons_succ, List.getElem_cons_zero, Act.put, List.setIfInBounds_toArray, List.set_cons_zero, List.set_cons_succ]
    refine wpAnyH_take (i := 5) (v := Value.slice bo3 xb.length bc3) rfl (by kernel_rfl) (by kernel_rfl) (by kernel_rfl) (fun _ _ _ h => h) (Or.inl ⟨rfl, fun w' hw' => ?_⟩) hHeld ?_
    · go_simp
    simp only [List.getElem_toArray, List.getElem_cons_succ, List.getElem_cons_zero, Act.put, List.setIfInBounds_toArray, List.set_cons_zero, List.set_cons_succ]
    refine wpAnyH_done (by kernel_rfl) ?_ _
    refine NoPanic.normal ?_
    clear hHeld
    have HD3 := Lib.hid (HB8.out.trans (HS3.out.mono HB8.out.size))
    have HE3 : Hid (EB u3 ge k0 t0 (.slice no0 nn0 nc0) (.slice ao1 an0 ac0)) := row_below HS3.out HE0.out
    have HX3 : Hid (EB u3 gx k1 t1 (.slice no1 nn1 nc1) (.slice ao2 an1 ac1)) := row_below HS3.out HX0.out
    have HA3 := Lib.hid (Et.At.keeps (Keeps.of_below HS3.out) _ _ HAT.out)
    have HX4 := Lib.hid (Et.At.keeps (Keeps.of_below HS3.out) _ _ HAX.out)
    have HTH := Lib.hid (thick_any e HM.out.fine (by omega) _ _ u3 HA3.out)
    have HXB := Lib.hid (HO3.out.at)
    clear HS0 HS1 HS3 HB1 HB2 HCE HCX HE0 HX0 HAT HAX HO1 HO3 HB8
    obtain ⟨th, hth⟩ : ∃ t, t = e.thick := ⟨_, rfl⟩
    rw [← hth] at HTH HCP HLN hxs hts
    have hes : e.size ≤ 400 := hsz
    have HEX := Lib.hid hxs
    have HZ1 : Hid (∀ w', Below u3.heap.size u3 w' → Calls Tryd.prog 23 #[.agg #[.int .i64 k1, .string t1, .slice no1 nn1 nc1, .slice ao2 an1 ac1]] w' (RetInt (x.size : Int) w')) := fun w' hw' => refsize_any 2000 (by decide) x (by omega) _ _ w' (Et.At.keeps (Keeps.of_below hw') _ _ HX4.out)
    have HZ2 : Hid (∀ w', Below u3.heap.size u3 w' → Calls Tryd.prog 23 #[.agg #[.int .i64 k0, .string t0, .slice no0 nn0 nc0, .slice ao1 an0 ac0]] w' (RetInt (e.size : Int) w')) := fun w' hw' => refsize_any 2000 (by decide) e (by omega) _ _ w' (Et.At.keeps (Keeps.of_below hw') _ _ HA3.out)
    obtain ⟨zx, hzx⟩ : ∃ z, z = x.size := ⟨_, rfl⟩
    obtain ⟨ze, hze⟩ : ∃ z, z = e.size := ⟨_, rfl⟩
    rw [← hzx] at HZ1 hxs
    rw [← hze] at HZ2 hxs hes
    clear hth hzx hze HEX hsz
    go_wp2_with (refine wpList_load_row rfl 28 _ rfl ge rfl 28 #[.int .i64 k0, .string t0, .slice no0 nn0 nc0, .slice ao1 an0 ac0] (0, 0) _ HE3.out Tryd.underlying28 rfl info28 ?_)
    refine HTH.out.mono ?_
    rintro r u4 ⟨rfl, hb4⟩
    have HB4 := Lib.hid hb4
    clear hb4 HTH
    obtain ⟨hbl, hxl⟩ := HLN.out
    have hbb9 : bb.length ≤ 99 := by omega
    have hxb9 : xb.length ≤ 499 := by omega
    have qn : ((xb.length : Int) != (bb.length : Int) + (th : Int)) = false := by
      have : (xb.length : Int) = (bb.length : Int) + (th : Int) := by omega
      simp [this]
    have qz : ((zx : Int) != (ze : Int) + 2 * (th : Int)) = false := by
      have : (zx : Int) = (ze : Int) + 2 * (th : Int) := by omega
      simp [this]
    have hzx9 : zx ≤ 1200 := by omega
    clear hxl hbl hxs HLN
    go_upto_region 9 with fail
    have HCE : Hid (∀ w', Below u4.heap.size u4 w' → w'.cell? ⟨ge, 0, none⟩ = some (.int .i64 k0) ∧ w'.cell? ⟨ge, 1, none⟩ = some (.string t0) ∧ w'.cell? ⟨ge, 2, none⟩ = some (.slice no0 nn0 nc0) ∧ w'.cell? ⟨ge, 3, none⟩ = some (.slice ao1 an0 ac0)) := fun w' hw' => EB.cell w' ge _ _ _ _ (row_below hw' (row_below HB4.out HE3.out))
    have HCX : Hid (∀ w', Below u4.heap.size u4 w' → w'.cell? ⟨gx, 0, none⟩ = some (.int .i64 k1) ∧ w'.cell? ⟨gx, 1, none⟩ = some (.string t1) ∧ w'.cell? ⟨gx, 2, none⟩ = some (.slice no1 nn1 nc1) ∧ w'.cell? ⟨gx, 3, none⟩ = some (.slice ao2 an1 ac1)) := fun w' hw' => EB.cell w' gx _ _ _ _ (row_below hw' (row_below HB4.out HX3.out))
    have HS0 : Hid (Below u4.heap.size u4 u4.drew) := (Below.refl _ _).drew
    refine wp_region_noPanic ?_
    refine wp_region_held_drew (S := Below u4.heap.size u4) (by kernel_rfl) HS0.out (fun hHeld => ?_)
    generalize u4.drew = X at HS0 hHeld ⊢
    refine wpAnyH_take (i := 0) (v := Value.slice bo3 xb.length bc3) rfl (by kernel_rfl) (by kernel_rfl) (by kernel_rfl) (fun _ _ _ h => h) (Or.inl ⟨rfl, fun w' hw' => ?_⟩) hHeld ?_
    · go_simp
    simp only [List.getElem_toArray, List.getElem_cons_succ, List.getElem_cons_zero, Act.put, List.setIfInBounds_toArray, List.set_cons_zero, List.set_cons_succ]
    refine wpAnyH_take (i := 1) (v := Value.int .i64 (xb.length : Int)) rfl (by kernel_rfl) (by kernel_rfl) (by kernel_rfl) (fun _ _ _ h => h) (Or.inl ⟨rfl, fun w' hw' => ?_⟩) hHeld ?_
    · go_simp
    simp only [List.getElem_toArray, List.getElem_cons_succ, List.getElem_cons_zero, Act.put, List.setIfInBounds_toArray, List.set_cons_zero, List.set_cons_succ]
    refine wpAnyH_take (i := 2) (v := Value.slice bo1 bb.length bc1) rfl (by kernel_rfl) (by kernel_rfl) (by kernel_rfl) (fun _ _ _ h => h) (Or.inl ⟨rfl, fun w' hw' => ?_⟩) hHeld ?_
    · go_simp
    simp only [List.getElem_toArray, List.getElem_cons_succ, List.getElem_cons_zero, Act.put, List.setIfInBounds_toArray, List.set_cons_zero, List.set_cons_succ]
    refine wpAnyH_take (i := 3) (v := Value.int .i64 (bb.length : Int)) rfl (by kernel_rfl) (by kernel_rfl) (by kernel_rfl) (fun _ _ _ h => h) (Or.inl ⟨rfl, fun w' hw' => ?_⟩) hHeld ?_
    · go_simp
    simp only [List.getElem_toArray, List.getElem_cons_succ, List.getElem_cons_zero, Act.put, List.setIfInBounds_toArray, List.set_cons_zero, List.set_cons_succ]
    refine wpAnyH_take (i := 4) (v := Value.int .i64 (th : Int)) rfl (by kernel_rfl) (by kernel_rfl) (by kernel_rfl) (fun _ _ _ h => h) (Or.inl ⟨rfl, fun w' hw' => ?_⟩) hHeld ?_
    · go_simp
    simp only [List.getElem_toArray, List.getElem_cons_succ, List.getElem_cons_zero, Act.put, List.setIfInBounds_toArray, List.set_cons_zero, List.set_cons_succ]
    refine wpAnyH_take (i := 5) (v := Value.int .i64 ((bb.length : Int) + (th : Int))) rfl (by kernel_rfl) (by kernel_rfl) (by kernel_rfl) (fun _ _ _ h => h) (Or.inl ⟨rfl, fun w' hw' => ?_⟩) hHeld ?_
    · go_simp; exact wsmall _ (by omega) (by omega)
    simp only [List.getElem_toArray, List.getElem_cons_succ, List.getElem_cons_zero, Act.put, List.setIfInBounds_toArray, List.set_cons_zero, List.set_cons_succ]
    refine wpAnyH_take (i := 6) (v := Value.bool false) rfl (by kernel_rfl) (by kernel_rfl) (by kernel_rfl) (fun _ _ _ h => h) (Or.inl ⟨rfl, fun w' hw' => ?_⟩) hHeld ?_
    · go_simp
    simp only [List.getElem_toArray, List.getElem_cons_succ, List.getElem_cons_zero, Act.put, List.setIfInBounds_toArray, List.set_cons_zero, List.set_cons_succ]
    refine wpAnyH_take (i := 7) (v := Value.bool false) rfl (by kernel_rfl) (by kernel_rfl) (by kernel_rfl) (fun _ _ _ h => h) (Or.inl ⟨rfl, fun w' hw' => ?_⟩) hHeld ?_
    · go_simp
    simp only [List.getElem_toArray, List.getElem_cons_succ, List.getElem_cons_zero, Act.put, List.setIfInBounds_toArray, List.set_cons_zero, List.set_cons_succ]
    refine wpAnyH_take (i := 8) (v := Value.agg #[.int .i64 k1, .string t1, .slice no1 nn1 nc1, .slice ao2 an1 ac1]) rfl (by kernel_rfl) (by kernel_rfl) (by kernel_rfl) (fun _ _ _ h => h) (Or.inl ⟨rfl, fun w' hw' => ?_⟩) hHeld ?_
    · obtain ⟨d0, d1, d2, d3⟩ := HCX.out w' hw'; go_simp
    simp only [List.getElem_toArray, List.getElem_cons_succ, List.getElem_cons_zero, Act.put, List.setIfInBounds_toArray, List.set_cons_zero, List.set_cons_succ]
    refine wpAnyH_take (i := 10) (v := Value.agg #[.int .i64 k0, .string t0, .slice no0 nn0 nc0, .slice ao1 an0 ac0]) rfl (by kernel_rfl) (by kernel_rfl) (by kernel_rfl) (fun _ _ _ h => h) (Or.inl ⟨rfl, fun w' hw' => ?_⟩) hHeld ?_
    · obtain ⟨d0, d1, d2, d3⟩ := HCE.out w' hw'; go_simp
    simp only [List.getElem_toArray, List.getElem_cons_succ, List.getElem_cons_zero, Act.put, List.setIfInBounds_toArray, List.set_cons_zero, List.set_cons_succ]
    refine wpAnyH_take (i := 12) (v := Value.int .i64 (th : Int)) rfl (by kernel_rfl) (by kernel_rfl) (by kernel_rfl) (fun _ _ _ h => h) (Or.inl ⟨rfl, fun w' hw' => ?_⟩) hHeld ?_
    · go_simp
    simp only [List.getElem_toArray, List.getElem_cons_succ, List.getElem_cons_zero, Act.put, List.setIfInBounds_toArray, List.set_cons_zero, List.set_cons_succ]
    refine wpAnyH_take (i := 13) (v := Value.int .i64 (2 * (th : Int))) rfl (by kernel_rfl) (by kernel_rfl) (by kernel_rfl) (fun _ _ _ h => h) (Or.inl ⟨rfl, fun w' hw' => ?_⟩) hHeld ?_
    · go_simp; exact wsmall _ (by omega) (by omega)
    simp only [List.getElem_toArray, List.getElem_cons_succ, List.getElem_cons_zero, Act.put, List.setIfInBounds_toArray, List.set_cons_zero, List.set_cons_succ]
    refine wpAnyH_ready (rs := [9]) (by kernel_rfl) (by simp) ?_
    refine (AllReadyH.cons rfl (fun K hK => ?_) AllReadyH.nil)
    go_simp
    refine (HZ1.out _ (HB4.out.trans (HS0.out.mono HB4.out.size))).mono ?_
    rintro r v9 ⟨rfl, hbq⟩
    have HS9 : Hid (Below u4.heap.size u4 v9) := HS0.out.trans (hbq.mono HS0.out.size)
    clear hbq
    refine hK.out _ _ HS9.out (fun hHeld => ?_)
    clear hK K
    try simp only [List.getElem_toArray, List.getElem_cons_succ, List.getElem_cons_zero, Act.put, List.setIfInBounds_toArray, List.set_cons_zero, List.set_cons_succ]
    refine wpAnyH_ready (rs := [11]) (by kernel_rfl) (by simp) ?_
    refine (AllReadyH.cons rfl (fun K hK => ?_) AllReadyH.nil)
    go_simp
    refine (HZ2.out _ (HB4.out.trans (HS9.out.mono HB4.out.size))).mono ?_
    rintro r v11 ⟨rfl, hbq⟩
    have HS11 : Hid (Below u4.heap.size u4 v11) := HS9.out.trans (hbq.mono HS9.out.size)
    clear hbq
    refine hK.out _ _ HS11.out (fun hHeld => ?_)
    clear hK K
    try simp only [List.getElem_toArray, List.getElem_cons_succ, List.getElem_cons_zero, Act.put, List.setIfInBounds_toArray, List.set_cons_zero, List.set_cons_succ]
    refine wpAnyH_take (i := 14) (v := Value.int .i64 ((ze : Int) + 2 * (th : Int))) rfl (by kernel_rfl) (by kernel_rfl) (by kernel_rfl) (fun _ _ _ h => h) (Or.inl ⟨rfl, fun w' hw' => ?_⟩) hHeld ?_
    · go_simp; exact wsmall _ (by omega) (by omega)
    simp only [List.getElem_toArray, List.getElem_cons_succ, List.getElem_cons_zero, Act.put, List.setIfInBounds_toArray, List.set_cons_zero, List.set_cons_succ]
    refine wpAnyH_take (i := 15) (v := Value.bool false) rfl (by kernel_rfl) (by kernel_rfl) (by kernel_rfl) (fun _ _ _ h => h) (Or.inl ⟨rfl, fun w' hw' => ?_⟩) hHeld ?_
    · go_simp
    simp only [List.getElem_toArray, List.getElem_cons_succ, List.getElem_cons_zero, Act.put, List.setIfInBounds_toArray, List.set_cons_zero, List.set_cons_succ]
    refine wpAnyH_take (i := 16) (v := Value.bool false) rfl (by kernel_rfl) (by kernel_rfl) (by kernel_rfl) (fun _ _ _ h => h) (Or.inl ⟨rfl, fun w' hw' => ?_⟩) hHeld ?_
    · go_simp
    simp only [List.getElem_toArray, List.getElem_cons_succ, List.getElem_cons_zero, Act.put, List.setIfInBounds_toArray, List.set_cons_zero, List.set_cons_succ]
    refine wpAnyH_done (by kernel_rfl) ?_ _
    refine NoPanic.normal ?_
    clear hHeld
    have HD5 := Lib.hid (HD3.out.trans ((HB4.out.trans (HS11.out.mono HB4.out.size)).mono HD3.out.size))
    have HXB5 := Lib.hid (HXB.out.keeps (Keeps.of_below (HB4.out.trans (HS11.out.mono HB4.out.size))))
    clear HS0 HS9 HS11 HZ1 HZ2 HCE HCX HE3 HX3 HA3 HX4 HXB HB4 HD3 hHeld
    go_wp2_with fail
    go_loopw [8, 9] (fun kv iv wr => CtInv xb v11 kv iv wr) (fun _ iv _ => xb.length - (intOf iv).toNat)
    case atStart => exact ⟨0, 0, Nat.zero_le _, rfl, rfl, rfl, Below.refl _ _⟩
    case round =>
      obtain ⟨i, n, hi, rfl, rfl, hn, hb⟩ := hrel
      have G2 := Lib.hid hb
      have G3 := Lib.hid (HXB5.out.keeps (Keeps.of_below hb))
      have HN := Lib.hid hn
      have hnl : n ≤ i := by rw [hn]; have := List.countP_le_length (p := isP) (l := xb.take i); rw [List.length_take] at this; omega
      clear hb hn
      by_cases hlt : i < xb.length
      · have q1 : decide ((i : Int) < (xb.length : Int)) = true := decide_eq_true (by omega)
        obtain ⟨gn, on, rfl, -, cn⟩ := G3.out.get i hlt
        obtain ⟨s, hs⟩ : ∃ s, s = xb[i] := ⟨_, rfl⟩
        have hct : (xb.take (i + 1)).countP isP = n + (if isP s = true then 1 else 0) := by
          rw [List.take_succ_eq_append_getElem hlt, List.countP_append, ← HN.out, ← hs]; simp [List.countP_cons]
        have HCT := Lib.hid hct
        rw [← hs] at cn
        clear hs hct
        by_cases h0 : 0 < s.size
        · have q2 : decide ((0 : Int) < (s.size : Int)) = true := decide_eq_true (by omega)
          have q5 := isP_get s h0
          obtain ⟨b, hb⟩ : ∃ b, isP s = b := ⟨_, rfl⟩
          rw [hb] at q5 HCT
          cases b
          · have HC2 : Hid ((xb.take (i + 1)).countP isP = n) := by
              show _ = _
              have h := HCT.out
              simpa using h
            clear HCT hb
            go_wp2_with fail
            go_roundw
            case rel => exact ⟨i + 1, n, by omega, by go_num, rfl, HC2.out.symm, G2.out⟩
            case measure => simp [intOf]; omega
          · have HC2 : Hid ((xb.take (i + 1)).countP isP = n + 1) := by
              show _ = _
              have h := HCT.out
              simpa using h
            clear HCT hb
            go_wp2_with fail
            go_roundw
            case rel => exact ⟨i + 1, n + 1, by omega, by go_num, by go_num, HC2.out.symm, G2.out⟩
            case measure => simp [intOf]; omega
        · have q2 : decide ((0 : Int) < (s.size : Int)) = false := decide_eq_false (by omega)
          have HC2 : Hid ((xb.take (i + 1)).countP isP = n) := by
            show _ = _
            have h := HCT.out
            rw [isP_size s h0] at h; simpa using h
          clear HCT
          go_wp2_with fail
          go_roundw
          case rel => exact ⟨i + 1, n, by omega, by go_num, rfl, HC2.out.symm, G2.out⟩
          case measure => simp [intOf]; omega
      · have q1 : decide ((i : Int) < (xb.length : Int)) = false := decide_eq_false (by omega)
        have hnt : n = th := by
          have h := HN.out
          rw [show i = xb.length by omega, List.take_length, HCP.out] at h
          exact h
        have q3 : ((n : Int) == (th : Int)) = true := by simp [hnt]
        have HNT := Lib.hid hnt
        clear hnt
        go_wp2_with fail
        go_ret
        exact ⟨by rfl, HD5.out.trans (G2.out.mono HD5.out.size)⟩
end Go.Proofs.YtmcgocbkjdacaaaDoor
