/- The document's Norm. -/
import Derived.Test.YtmcgocbkjdacaaaDoorRN0
namespace Go.Proofs.YtmcgocbkjdacaaaDoor
open Go.RowKit Go.BigM
set_option linter.unusedVariables false
set_option linter.unusedSimpArgs false
set_option maxHeartbeats 16000000 in
set_option maxRecDepth 100000 in
theorem rnorm_node (k : Int) (t : ByteArray) (ns : List ByteArray) (a : List Et) (ih : ∀ e ∈ a, RNC e) (hl : a.length ≤ 100000) (ht : t.size ≤ 100) (hnl : ns.length ≤ 100) : RNC (.mk k t ns a) := by
  intro S cs w g n hat0 hnk hn
  have hne2 : ∀ x c T fz, w.heap[x]? = some (.cells c T fz) → (T = 28 ∨ T = 9) → x ≠ g := by
    intro x c T fz hx hT e
    subst e
    unfold Rk at hnk
    rw [hnk] at hx
    injection hx with hx
    injection hx with _ h2 _
    rcases hT with rfl | rfl
    · exact absurd h2 (by decide)
    · exact absurd h2 (by decide)
  have hat := Et.At.sat hne2 _ _ hat0
  clear hat0 hne2
  rw [thick_mk] at hn
  have hgw := hnk.lt
  have HEQ : Hid ((Et.mk k t ns a).nrm n = ((Et.nrms k t n 0 a).1, lets (Et.nrms k t n 0 a).2.2 (.mk k t ns (Et.nrms k t n 0 a).2.1))) := nrm_mk n k t ns a
  have HCN : Hid (∀ j, (Et.nrms k t n 0 (a.take j)).1 = n + Et.thicks k t 0 (a.take j)) := fun j => (nrms_f k t (a.take j) (fun e _ => nrm_f e) n 0).1
  have HTK : Hid (∀ j (h : j < a.length), Et.thicks k t 0 (a.take j) + a[j].thick ≤ Et.thicks k t 0 a) := fun j h => thicks_take k t a j h
  obtain ⟨th, hth⟩ : ∃ th, th = Et.thicks k t 0 a := ⟨_, rfl⟩
  rw [← hth] at HTK hn
  clear hth
  rw [EAt_mk] at hat
  obtain ⟨mv, lv, rfl, hm, hl0⟩ := hat
  have hm1 := hm.one
  have hl1 := hl0.one
  obtain ⟨ao, ac, rfl⟩ := hl0.form
  obtain ⟨no, nc, rfl⟩ := hm.form
  have hb1 : Below w.heap.size w ((w.alloc (.cells #[.int .i64 k, .string t, .slice no ns.length nc, .slice ao a.length ac] 28)).alloc (.cells Z4 28)) := ((Below.refl w.heap.size w).alloc (Nat.le_refl _) _).alloc (by simp) _
  have hrow : ((w.alloc (.cells #[.int .i64 k, .string t, .slice no ns.length nc, .slice ao a.length ac] 28)).alloc (.cells Z4 28)).heap[w.heap.size]? = some (.cells #[.int .i64 k, .string t, .slice no ns.length nc, .slice ao a.length ac] 28 (0, 0)) := (Lib.alloc_old _ _ _ (by simp)).trans (alloc_at w _)
  have hz : ((w.alloc (.cells #[.int .i64 k, .string t, .slice no ns.length nc, .slice ao a.length ac] 28)).alloc (.cells Z4 28)).heap[w.heap.size + 1]? = some (.cells Z4 28 (0, 0)) := by
    have h := alloc_at (w.alloc (.cells #[.int .i64 k, .string t, .slice no ns.length nc, .slice ao a.length ac] 28)) (.cells Z4 28)
    have e : (w.alloc (.cells #[.int .i64 k, .string t, .slice no ns.length nc, .slice ao a.length ac] 28)).heap.size = w.heap.size + 1 := by simp
    rw [e] at h; exact h
  have hs1 : ((w.alloc (.cells #[.int .i64 k, .string t, .slice no ns.length nc, .slice ao a.length ac] 28)).alloc (.cells Z4 28)).heap.size = w.heap.size + 2 := by simp
  have HB1 := Lib.hid hb1
  have HRW : Hid (EB ((w.alloc (.cells #[.int .i64 k, .string t, .slice no ns.length nc, .slice ao a.length ac] 28)).alloc (.cells Z4 28)) w.heap.size k t (.slice no ns.length nc) (.slice ao a.length ac)) := hrow
  have HZ := Lib.hid hz
  have HM := Lib.hid (hm.keeps (Keeps.of_below hb1))
  have HL := Lib.hid (hl0.keeps (Keeps.of_below hb1))
  have HN1 := Lib.hid (hnk.below hb1)
  have HLZ := Lib.hid (fun w => lazy_any k t (.slice no ns.length nc) (.slice ao a.length ac) w (by omega) rfl rfl)
  have hlr := lazy_range k t
  have HLS := Lib.hid (fun j => lazy_slot k t j)
  obtain ⟨z, hz⟩ : ∃ z, z = lazyI k t := ⟨_, rfl⟩
  rw [← hz] at HLZ hlr HLS
  have IH := Lib.hid ih
  clear hb1 hrow hz hm hl0 ih hnk
  go_enter Tryd.func40, Tryd.ntmps40
  go_upto_region 1 with fail
  generalize (w.alloc (.cells #[.int .i64 k, .string t, .slice no ns.length nc, .slice ao a.length ac] 28)).alloc (.cells #[.int .i64 0, .string ⟨#[]⟩, .slice none 0 0, .slice none 0 0] 28) = W1 at HB1 HRW HZ HM HL HN1 hs1 ⊢
  obtain ⟨gs, hgs0⟩ : ∃ gs, gs = w.heap.size := ⟨_, rfl⟩
  obtain ⟨gr, hgr0⟩ : ∃ gr, gr = gs + 1 := ⟨_, rfl⟩
  rw [← hgs0] at HRW
  rw [← hgs0, ← hgr0] at HZ
  simp only [← hgs0]
  simp only [← hgr0]
  have hgs1 : gs < W1.heap.size := by omega
  have hgr1 : gr < W1.heap.size := by omega
  have hgrs : gr ≠ gs := by omega
  have hggs : gs ≠ g := by omega
  have hgW : g < W1.heap.size := by omega
  have hgrw : w.heap.size ≤ gr := by omega
  clear hgs0 hgr0 hs1
  have HCS : Hid (∀ w', Below W1.heap.size W1 w' → w'.cell? ⟨gs, 0, none⟩ = some (.int .i64 k) ∧ w'.cell? ⟨gs, 1, none⟩ = some (.string t) ∧ w'.cell? ⟨gs, 2, none⟩ = some (.slice no ns.length nc) ∧ w'.cell? ⟨gs, 3, none⟩ = some (.slice ao a.length ac)) := fun w' hw' => EB.cell w' gs k t _ _ (row_below hw' HRW.out)
  refine wp_region_noPanic ?_
  refine wp_region_held_drew (S := Below W1.heap.size W1) (by kernel_rfl) ((Below.refl _ _).drew) (fun hHeld => ?_)
  have HX : Hid (Below W1.heap.size W1 W1.drew) := (Below.refl _ _).drew
  generalize W1.drew = X at HX hHeld ⊢
  refine wpAnyH_take (i := 0) (v := Value.pointer (some ⟨gs, 0, none⟩)) rfl (by kernel_rfl) (by kernel_rfl) (by kernel_rfl) (fun _ _ _ h => h) (Or.inl ⟨rfl, fun w' hw' => ?_⟩) hHeld ?_
  · go_simp
  simp only [List.getElem_toArray, List.getElem_cons_succ, List.getElem_cons_zero, Act.put, List.setIfInBounds_toArray, List.set_cons_zero, List.set_cons_succ]
  refine wpAnyH_take (i := 1) (v := Value.int .i64 k) rfl (by kernel_rfl) (by kernel_rfl) (by kernel_rfl) (fun _ _ _ h => h) (Or.inl ⟨rfl, fun w' hw' => ?_⟩) hHeld ?_
  · obtain ⟨d0, d1, d2, d3⟩ := HCS.out w' hw'; go_simp
  simp only [List.getElem_toArray, List.getElem_cons_succ, List.getElem_cons_zero, Act.put, List.setIfInBounds_toArray, List.set_cons_zero, List.set_cons_succ]
  refine wpAnyH_take (i := 2) (v := Value.pointer (some ⟨gs, 1, none⟩)) rfl (by kernel_rfl) (by kernel_rfl) (by kernel_rfl) (fun _ _ _ h => h) (Or.inl ⟨rfl, fun w' hw' => ?_⟩) hHeld ?_
  · go_simp
  simp only [List.getElem_toArray, List.getElem_cons_succ, List.getElem_cons_zero, Act.put, List.setIfInBounds_toArray, List.set_cons_zero, List.set_cons_succ]
  refine wpAnyH_take (i := 3) (v := Value.string t) rfl (by kernel_rfl) (by kernel_rfl) (by kernel_rfl) (fun _ _ _ h => h) (Or.inl ⟨rfl, fun w' hw' => ?_⟩) hHeld ?_
  · obtain ⟨d0, d1, d2, d3⟩ := HCS.out w' hw'; go_simp
  simp only [List.getElem_toArray, List.getElem_cons_succ, List.getElem_cons_zero, Act.put, List.setIfInBounds_toArray, List.set_cons_zero, List.set_cons_succ]
  refine wpAnyH_take (i := 5) (v := Value.pointer (some ⟨gs, 2, none⟩)) rfl (by kernel_rfl) (by kernel_rfl) (by kernel_rfl) (fun _ _ _ h => h) (Or.inl ⟨rfl, fun w' hw' => ?_⟩) hHeld ?_
  · go_simp
  simp only [List.getElem_toArray, List.getElem_cons_succ, List.getElem_cons_zero, Act.put, List.setIfInBounds_toArray, List.set_cons_zero, List.set_cons_succ]
  refine wpAnyH_take (i := 6) (v := Value.slice no ns.length nc) rfl (by kernel_rfl) (by kernel_rfl) (by kernel_rfl) (fun _ _ _ h => h) (Or.inl ⟨rfl, fun w' hw' => ?_⟩) hHeld ?_
  · obtain ⟨d0, d1, d2, d3⟩ := HCS.out w' hw'; go_simp
  simp only [List.getElem_toArray, List.getElem_cons_succ, List.getElem_cons_zero, Act.put, List.setIfInBounds_toArray, List.set_cons_zero, List.set_cons_succ]
  refine wpAnyH_ready (rs := [4, 9]) (by kernel_rfl) (by simp) ?_
  refine (AllReadyH.cons rfl (fun K hK => ?_) (AllReadyH.cons rfl (fun K hK => ?_) AllReadyH.nil))
  · skip
    have HB4 : Hid (Below W1.heap.size W1 (X.alloc (.cells #[] 9))) := HX.out.alloc HX.out.size _
    have HN4 := Lib.hid (OwnN.lit W1.heap.size X HX.out.size)
    go_simp
    refine hK.out _ _ HB4.out (fun hHeld => ?_)
    clear hK K
    try simp only [List.getElem_toArray, List.getElem_cons_succ, List.getElem_cons_zero, Act.put, List.setIfInBounds_toArray, List.set_cons_zero, List.set_cons_succ]
    refine wpAnyH_ready (rs := [7, 9]) (by kernel_rfl) (by simp) ?_
    refine (AllReadyH.cons rfl (fun K hK => ?_) (AllReadyH.cons rfl (fun K hK => ?_) AllReadyH.nil))
    · skip
      have HM6 := Lib.hid (HM.out.keeps (Keeps.of_below HB4.out))
      refine wp_appNr (Operand.tmp 17) (Operand.tmp 19) rfl W1.heap.size (.slice (some ⟨X.heap.size, 0, none⟩) 0 0) [] (by go_simp) HN4.out _ ns rfl HM6.out (by simp; omega) HB4.out.size rfl ?_
      intro v' w6 hown6 hg6 hnx6
      obtain ⟨no', nc', rfl⟩ := own_form hown6
      rw [List.nil_append] at hown6
      have HB7 : Hid (Below W1.heap.size W1 w6) := HB4.out.trans ⟨hg6.os, hg6.tape, hg6.output, hg6.size, fun x hx => hg6.block x (Nat.lt_of_lt_of_le hx HB4.out.size) (fun e => by have := (OwnN.lt HN4.out e).1; omega)⟩
      have HN7 := Lib.hid hown6
      clear hown6 hg6 hnx6
      refine hK.out _ _ HB7.out (fun hHeld => ?_)
      clear hK K
      try simp only [List.getElem_toArray, List.getElem_cons_succ, List.getElem_cons_zero, Act.put, List.setIfInBounds_toArray, List.set_cons_zero, List.set_cons_succ]
      refine wpAnyH_take (i := 8) (v := Value.agg #[.int .i64 k, .string t, .slice no' ns.length nc', .slice none 0 0]) rfl (by kernel_rfl) (by kernel_rfl) (by kernel_rfl) (fun _ _ _ h => h) (Or.inl ⟨rfl, fun w' hw' => ?_⟩) hHeld ?_
      · go_simp
      simp only [List.getElem_toArray, List.getElem_cons_succ, List.getElem_cons_zero, Act.put, List.setIfInBounds_toArray, List.set_cons_zero, List.set_cons_succ]
      refine wpAnyH_ready (rs := [9]) (by kernel_rfl) (by simp) ?_
      refine (AllReadyH.cons rfl (fun K hK => ?_) AllReadyH.nil)
      have HB9 : Hid (Below W1.heap.size W1 (w6.alloc (.cells Z4 28))) := HB7.out.alloc HB7.out.size _
      skip
      have hz9 := alloc_at (w6) (.cells Z4 28)
      have hge8 := HB7.out.size
      skip
      have HZ9 : Hid ((w6.alloc (.cells Z4 28)).heap[w6.heap.size]? = some (.cells Z4 28 (0, 0))) := hz9
      clear hz9
      have HN9 := Lib.hid (HN7.out.below ((Below.refl _ _).alloc (Nat.le_refl _) (.cells Z4 28)))
      go_simp
      refine hK.out _ _ HB9.out (fun hHeld => ?_)
      clear hK K
      try simp only [List.getElem_toArray, List.getElem_cons_succ, List.getElem_cons_zero, Act.put, List.setIfInBounds_toArray, List.set_cons_zero, List.set_cons_succ]
      obtain ⟨x1, x2, x3, hgeb, hap⟩ := nt_start (k := k) (t := t) HB9.out HZ9.out hge8 HN9.out
      have HXB := Lib.hid x1
      have HXN := Lib.hid x2
      have HE0 := Lib.hid x3
      have hone : (#[.int .i64 k, .string t, .slice no' ns.length nc', .slice none 0 0] : Array Value).all (·.oneCell') = true := by simp [Value.oneCell']
      clear x1 x2 x3
      refine wpAnyH_ready (rs := [10]) (by kernel_rfl) (by simp) ?_
      refine (AllReadyH.cons rfl (fun K hK => ?_) AllReadyH.nil)
      refine wp_store_row 28 _ _ rfl (w6.heap.size) #[.int .i64 k, .string t, .slice no' ns.length nc', .slice none 0 0] (by go_simp) rfl 28 Z4 HZ9.out info28 rfl hone ?_
      refine hK.out _ _ HXB.out (fun hHeld => ?_)
      clear hK K
      try simp only [List.getElem_toArray, List.getElem_cons_succ, List.getElem_cons_zero, Act.put, List.setIfInBounds_toArray, List.set_cons_zero, List.set_cons_succ]
      refine wpAnyH_done (by kernel_rfl) ?_ _
      refine NoPanic.normal ?_
      clear hHeld
      generalize (w6.alloc (.cells Z4 28)).setRow (w6.heap.size) #[.int .i64 k, .string t, .slice no' ns.length nc', .slice none 0 0] = W0 at HXB HXN HE0 hgeb ⊢
      generalize w6.heap.size = ge at HE0 hgeb hge8 hap ⊢
      have HAP := Lib.hid hap
      clear hap hone
      have hneg : ge ≠ g := by omega
      have HN0 := Lib.hid (HN1.out.below HXB.out)
      have HG0 : Hid (W0.heap[gs]? = some (.cells #[.int .i64 k, .string t, .slice no ns.length nc, .slice ao a.length ac] 28 (0, 0))) := row_below HXB.out HRW.out
      go_wp2_with (refine wpList_load_row rfl 28 _ rfl gs rfl 28 #[.int .i64 k, .string t, .slice no ns.length nc, .slice ao a.length ac] (0, 0) _ HG0.out Tryd.underlying28 rfl info28 ?_)
      refine (HLZ.out _).mono ?_
      rintro r W2 ⟨rfl, hb2⟩
      replace HXB := Lib.hid (HXB.out.trans (hb2.mono HXB.out.size))
      replace HXN := Lib.hid (HXN.out.below hb2)
      replace HE0 : Hid (EB W2 ge k t (.slice no' ns.length nc') (.slice none 0 0)) := row_below hb2 HE0.out
      replace HN0 := Lib.hid (HN0.out.below hb2)
      replace hgeb : ge < W2.heap.size := Nat.lt_of_lt_of_le hgeb hb2.size
      clear hb2 HG0 HLZ
      have hW01 : W1.heap.size ≤ W2.heap.size := HXB.out.size
      have hgW2 : g < W2.heap.size := by omega
      go_wp2_with fail
      go_loopw [7, 8, 9] (fun nmv vv iv wr => RLoop W2 g ge k t (.slice no' ns.length nc') a n nmv vv iv wr) (fun _ _ iv _ => a.length - (intOf iv).toNat)
      case atStart => exact RLoop.zero HE0.out HN0.out
      case round =>
        obtain ⟨j, av, hj, rfl, M⟩ := hrel
        have HSN := Lib.hid (fun e => nrms_snoc k t e (a.take j) n 0)
        have hcn := HCN.out j
        have hml := nrms_len k t (a.take j) n 0
        rw [List.length_take, Nat.min_eq_left hj] at hml
        have hvl0 := vals_len k t (a.take j) n 0
        rw [List.length_take, Nat.min_eq_left hj] at hvl0
        obtain ⟨made, hmade⟩ : ∃ x, x = (Et.nrms k t n 0 (a.take j)).2.1 := ⟨_, rfl⟩
        obtain ⟨ps, hps⟩ : ∃ x, x = (Et.nrms k t n 0 (a.take j)).2.2 := ⟨_, rfl⟩
        obtain ⟨m, hm⟩ : ∃ x, x = (Et.nrms k t n 0 (a.take j)).1 := ⟨_, rfl⟩
        rw [← hmade] at M hml
        rw [← hps] at M hvl0
        rw [← hm] at M hcn
        obtain ⟨nms, hnms⟩ : ∃ x, x = ps.map (·.1) := ⟨_, rfl⟩
        obtain ⟨vals, hvals⟩ : ∃ x, x = ps.map (·.2) := ⟨_, rfl⟩
        rw [← hnms, ← hvals] at M
        have hnl1 : nms.length = ps.length := by rw [hnms, List.length_map]
        have hvl1 : vals.length = ps.length := by rw [hvals, List.length_map]
        obtain ⟨ao5, ac5, hav⟩ := M.own.form
        obtain ⟨vo, vc, hvv⟩ := M.val.form
        obtain ⟨mo, mc, hmv⟩ := own_form M.nam
        obtain ⟨np, hnp⟩ : ∃ np, made.length = np := ⟨_, rfl⟩
        obtain ⟨nvv, hnvv⟩ : ∃ np, vals.length = np := ⟨_, rfl⟩
        obtain ⟨nm, hnm⟩ : ∃ np, nms.length = np := ⟨_, rfl⟩
        rw [hnp] at hav hml
        rw [hnvv] at hvv hvl1
        rw [hnm] at hmv hnl1
        subst hav hvv hmv
        have hs0 := M.but.size
        have hB1 : But W1.heap.size g W1 wr := (But.of HXB.out : But W1.heap.size g W1 W2).trans (M.but.to hW01 hge8)
        have HB1r := Lib.hid hB1
        have HA := Lib.hid (AAt.keeps HL.out (hB1.keeps fun x hx => hx.2))
        have HGS : Hid (EB wr gs k t (.slice no ns.length nc) (.slice ao a.length ac)) := by
          show EB _ _ _ _ _ _
          unfold EB
          rw [hB1.block gs hgs1 hggs]; exact HRW.out
        have HMI := Lib.hid M
        have HNPL := Lib.hid hnp
        have HNVL := Lib.hid hnvv
        have HNML := Lib.hid hnm
        have HMD := Lib.hid hmade
        have HPS := Lib.hid hps
        have HMM := Lib.hid hm
        have HNS := Lib.hid hnms
        have HVS := Lib.hid hvals
        have hml2 : np + 1 ≤ 1000000000 := by omega
        have hnm5 : nm ≤ 100000 := by omega
        have hnms5 : nms.length ≤ 100000 := by omega
        have hnvv5 : nvv ≤ 100000 := by omega
        have hnmv : nm = nvv := by omega
        have HNV := Lib.hid hnmv
        have hpl5 := hnl1
        have HPL := Lib.hid hpl5
        clear M hmade hps hm hnms hvals hnp hnvv hnm hB1 hml hvl0 hnl1 hvl1 hnmv hpl5
        obtain ⟨-, -, -, cs3⟩ := EB.cell _ _ _ _ _ _ HGS.out
        by_cases hlt : j < a.length
        · have q1 : decide ((j : Int) < (a.length : Int)) = true := decide_eq_true (by omega)
          obtain ⟨g4, o4, k', t', mv', lv', rfl, -, -, hati, e0, e1, e2, e3, o1', o2'⟩ := HA.out.get j hlt
          have htk := HTK.out j hlt
          have HC := Lib.hid (IH.out a[j] (List.getElem_mem hlt) _ _ _ g m hati HMI.out.cn (by omega))
          clear hati
          go_wp2_with fail
          refine HC.out.mono ?_
          rintro r w7 ⟨cs7, rfl, hat7, hnk7, hbut7⟩
          obtain ⟨k5, t5, no5, nn5, nc5, ao6, an6, ac6, rfl⟩ := EAt_sl hat7
          have z5 : (#[.int .i64 k5, .string t5, .slice no5 nn5 nc5, .slice ao6 an6 ac6] : Array Value).all (·.oneCell') = true := by simp [Value.oneCell']
          obtain ⟨x5, hx5⟩ : ∃ x5, x5 = (a[j].nrm m).2 := ⟨_, rfl⟩
          obtain ⟨m5, hm5⟩ : ∃ m5, m5 = (a[j].nrm m).1 := ⟨_, rfl⟩
          rw [← hx5] at hat7
          rw [← hm5] at hnk7
          have hmc : m5 = m + a[j].thick := by rw [hm5]; exact (nrm_f a[j] m).cnt
          have HX5 := Lib.hid hx5
          have HM5 := Lib.hid hm5
          have HMID := Lib.hid (RMid.of HMI.out hgW2 hgeb hneg hbut7 hnk7 hat7)
          have hm100 : m5 ≤ 100000 := by omega
          clear hat7 hnk7 hbut7 hx5 hm5 hmc HC htk e0 e1 e2 e3 cs3
          go_upto_region 9 with (refine wpList_store_row rfl 28 _ _ rfl w7.heap.size #[.int .i64 k5, .string t5, .slice no5 nn5 nc5, .slice ao6 an6 ac6] rfl rfl 28 Z4 (alloc_at _ _) info28 rfl z5 ?_)
          try simp only [Act.put]
          have EE : (w7.alloc (.cells #[.int .i64 0, .string ⟨#[]⟩, .slice none 0 0, .slice none 0 0] 28)).setRow w7.heap.size #[.int .i64 k5, .string t5, .slice no5 nn5 nc5, .slice ao6 an6 ac6] = w7.alloc (.cells #[.int .i64 k5, .string t5, .slice no5 nn5 nc5, .slice ao6 an6 ac6] 28) := setRow_new _ _ _ _
          try rw [EE]
          clear EE z5
          generalize w7.alloc (.cells #[.int .i64 k5, .string t5, .slice no5 nn5 nc5, .slice ao6 an6 ac6] 28) = w8 at HMID ⊢
          generalize w7.heap.size = p9 at HMID ⊢
          have HSJ := Lib.hid (HLS.out j)
          have hr8 : w8.heap[p9]? = some (.cells #[.int .i64 k5, .string t5, .slice no5 nn5 nc5, .slice ao6 an6 ac6] 28 (0, 0)) := HMID.out.row
          have HR8 := Lib.hid hr8
          have HNL := Lib.hid (show Calls Tryd.prog 37 #[.agg #[.int .i64 k5, .string t5, .slice no5 nn5 nc5, .slice ao6 an6 ac6]] w8 (RetBool x5.atom w8) from atom_tells x5 _ _ w8 HMID.out.part)
          have HREL : Hid (∀ wz av' vv' nm' q, (Et.nrms k t n 0 (a.take (j + 1))) = q → RInv W2 g ge k t (.slice no' ns.length nc') wz av' vv' nm' q.2.1 (q.2.2.map (·.2)) (q.2.2.map (·.1)) q.1 → RLoop W2 g ge k t (.slice no' ns.length nc') a n nm' vv' (.int .i64 ((j : Int) + 1)) wz) := by
            show ∀ wz av' vv' nm' q, _ → _
            intro wz av' vv' nm' q hq h
            subst hq
            exact ⟨j + 1, av', by omega, by go_num, h⟩
          clear hr8
          by_cases hz0 : 0 ≤ z
          · have p0 : decide (0 ≤ z) = true := decide_eq_true hz0
            by_cases hzj : z ≤ (j : Int)
            · have p1 : decide (z ≤ (j : Int)) = true := decide_eq_true hzj
              have hs2 : slot k t (0 + (a.take j).length) = true := by rw [List.length_take, Nat.min_eq_left hj, Nat.zero_add, HSJ.out, p0, p1]; rfl
              obtain ⟨b, hb⟩ : ∃ b, x5.atom = b := ⟨_, rfl⟩
              rw [hb] at HNL
              go_wp2_with (first | (refine wpList_load_row rfl 28 _ rfl p9 rfl 28 #[.int .i64 k5, .string t5, .slice no5 nn5 nc5, .slice ao6 an6 ac6] (0, 0) _ HR8.out Tryd.underlying28 rfl info28 ?_) | (refine wpList_load_wanted (by rfl) 28 _ rfl p9 rfl 28 #[.int .i64 k5, .string t5, .slice no5 nn5 nc5, .slice ao6 an6 ac6] (0, 0) _ HR8.out Tryd.underlying28 rfl info28 ?_))
              refine HNL.out.mono ?_
              rintro r u8 ⟨rfl, hb8⟩
              replace HMID := Lib.hid (HMID.out.below hgW2 hneg hb8)
              clear hb8 HNL HR8
              cases b
              · have hsn := HSN.out a[j]
                rw [← take_snoc_et a j hlt, ← HMM.out, ← HMD.out, ← HPS.out, ← HX5.out, ← HM5.out, hs2, hb] at hsn
                have HSN2 : Hid (Et.nrms k t n 0 (a.take (j + 1)) = (m5 + 1, made ++ [evar (pn (m5 + 1))], ps ++ [(pn (m5 + 1), x5)])) := hsn
                clear hsn HSN
                clear hb hs2
                have HNX := Lib.hid (rnext_any g m5 u8 HMID.out.cn hm100)
                go_wp2_with fail
                refine HNX.out.mono ?_
                rintro r u9 ⟨rfl, hnk9, hbut9⟩
                have HMID2 := Lib.hid (HMID.out.but2 hgW2 hneg hbut9 hnk9)
                obtain ⟨pnm, hpn⟩ : ∃ x, x = pn (m5 + 1) := ⟨_, rfl⟩
                rw [← hpn] at HSN2 ⊢
                clear hnk9 hbut9 HNX HMID hpn
                go_upto_region 11 with fail
                have HM0 := Lib.hid (HMID2.out.below hgW2 hneg (w' := u9.drew) ((Below.refl _ _).drew))
                have HS0 : Hid (EB u9.drew p9 k5 t5 (.slice no5 nn5 nc5) (.slice ao6 an6 ac6)) := HM0.out.row
                clear HMID2
                refine wp_region_noPanic ?_
                refine wp_region_held_drew (S := fun w' => EB w' p9 k5 t5 (.slice no5 nn5 nc5) (.slice ao6 an6 ac6)) (by kernel_rfl) HS0.out (fun hHeld => ?_)
                generalize u9.drew = X9 at HS0 HM0 hHeld ⊢
                refine wpAnyH_take (i := 0) (v := Value.slice mo nm mc) rfl (by kernel_rfl) (by kernel_rfl) (by kernel_rfl) (fun _ _ _ h => h) (Or.inl ⟨rfl, fun w' hw' => ?_⟩) hHeld ?_
                · go_simp
                simp only [List.getElem_toArray, List.getElem_cons_succ, List.getElem_cons_zero, Act.put, List.setIfInBounds_toArray, List.set_cons_zero, List.set_cons_succ]
                refine wpAnyH_take (i := 1) (v := Value.string pnm) rfl (by kernel_rfl) (by kernel_rfl) (by kernel_rfl) (fun _ _ _ h => h) (Or.inl ⟨rfl, fun w' hw' => ?_⟩) hHeld ?_
                · go_simp
                simp only [List.getElem_toArray, List.getElem_cons_succ, List.getElem_cons_zero, Act.put, List.setIfInBounds_toArray, List.set_cons_zero, List.set_cons_succ]
                refine wpAnyH_take (i := 4) (v := Value.slice vo nvv vc) rfl (by kernel_rfl) (by kernel_rfl) (by kernel_rfl) (fun _ _ _ h => h) (Or.inl ⟨rfl, fun w' hw' => ?_⟩) hHeld ?_
                · go_simp
                simp only [List.getElem_toArray, List.getElem_cons_succ, List.getElem_cons_zero, Act.put, List.setIfInBounds_toArray, List.set_cons_zero, List.set_cons_succ]
                refine wpAnyH_take (i := 5) (v := Value.agg #[.int .i64 k5, .string t5, .slice no5 nn5 nc5, .slice ao6 an6 ac6]) rfl (by kernel_rfl) (by kernel_rfl) (by kernel_rfl) (fun _ _ _ h => h) (Or.inl ⟨rfl, fun w' hw' => ?_⟩) hHeld ?_
                · obtain ⟨d0, d1, d2, d3⟩ := EB.cell _ _ _ _ _ _ hw'; go_simp
                simp only [List.getElem_toArray, List.getElem_cons_succ, List.getElem_cons_zero, Act.put, List.setIfInBounds_toArray, List.set_cons_zero, List.set_cons_succ]
                refine wpAnyH_ready (rs := [2, 6]) (by kernel_rfl) (by simp) ?_
                refine (AllReadyH.cons rfl (fun K hK => ?_) (AllReadyH.cons rfl (fun K hK => ?_) AllReadyH.nil))
                · skip
                  have HM2 := Lib.hid (HM0.out.below hgW2 hneg (w' := X9.alloc (.cells #[.string pnm] 9)) ((Below.refl _ _).alloc (Nat.le_refl _) _))
                  have HS2 : Hid (EB (X9.alloc (.cells #[.string pnm] 9)) p9 k5 t5 (.slice no5 nn5 nc5) (.slice ao6 an6 ac6)) := HM2.out.row
                  have HNT := Lib.hid (one_name X9 pnm)
                  go_simp
                  refine hK.out _ _ HS2.out (fun hHeld => ?_)
                  clear hK K
                  try simp only [List.getElem_toArray, List.getElem_cons_succ, List.getElem_cons_zero, Act.put, List.setIfInBounds_toArray, List.set_cons_zero, List.set_cons_succ]
                  refine wpAnyH_ready (rs := [3, 6]) (by kernel_rfl) (by simp) ?_
                  refine (AllReadyH.cons rfl (fun K hK => ?_) (AllReadyH.cons rfl (fun K hK => ?_) AllReadyH.nil))
                  · skip
                    refine wp_appNr (Operand.tmp 52) (Operand.tmp 54) rfl W2.heap.size (.slice mo nm mc) nms rfl HM2.out.nam (.slice (some ⟨X9.heap.size, 0, none⟩) 1 1) [pnm] (by go_simp) HNT.out (by simp; omega) HM2.out.but.size rfl ?_
                    intro nm' u3 hn3 hg3 hx3
                    obtain ⟨mo', mc', hvn⟩ := own_form hn3
                    rw [List.length_append, HNML.out] at hvn
                    subst hvn
                    have HM3 := Lib.hid (HM2.out.name hgW2 hgeb pnm hn3 hg3 hx3)
                    have HS3 : Hid (EB u3 p9 k5 t5 (.slice no5 nn5 nc5) (.slice ao6 an6 ac6)) := HM3.out.row
                    clear hn3 hg3 hx3
                    refine hK.out _ _ HS3.out (fun hHeld => ?_)
                    clear hK K
                    try simp only [List.getElem_toArray, List.getElem_cons_succ, List.getElem_cons_zero, Act.put, List.setIfInBounds_toArray, List.set_cons_zero, List.set_cons_succ]
                    refine wpAnyH_ready (rs := [6]) (by kernel_rfl) (by simp) ?_
                    refine (AllReadyH.cons rfl (fun K hK => ?_) AllReadyH.nil)
                    skip
                    have HM6 := Lib.hid (HM3.out.below hgW2 hneg (w' := u3.alloc (.cells #[.int .i64 k5, .string t5, .slice no5 nn5 nc5, .slice ao6 an6 ac6] 28)) ((Below.refl _ _).alloc (Nat.le_refl _) _))
                    have HS6 : Hid (EB (u3.alloc (.cells #[.int .i64 k5, .string t5, .slice no5 nn5 nc5, .slice ao6 an6 ac6] 28)) p9 k5 t5 (.slice no5 nn5 nc5) (.slice ao6 an6 ac6)) := HM6.out.row
                    have HR6 : Hid ((u3.alloc (.cells #[.int .i64 k5, .string t5, .slice no5 nn5 nc5, .slice ao6 an6 ac6] 28)).heap[u3.heap.size]? = some (.cells #[.int .i64 k5, .string t5, .slice no5 nn5 nc5, .slice ao6 an6 ac6] 28 (0, 0))) := alloc_at _ _
                    go_simp
                    refine hK.out _ _ HS6.out (fun hHeld => ?_)
                    clear hK K
                    try simp only [List.getElem_toArray, List.getElem_cons_succ, List.getElem_cons_zero, Act.put, List.setIfInBounds_toArray, List.set_cons_zero, List.set_cons_succ]
                    refine wpAnyH_ready (rs := [7]) (by kernel_rfl) (by simp) ?_
                    refine (AllReadyH.cons rfl (fun K hK => ?_) AllReadyH.nil)
                    obtain ⟨xsv, hov, hBv, hpush⟩ := HM6.out.value hgW2 hgeb hneg rfl
                    rw [HNVL.out] at hov hpush
                    refine wp_appT (Operand.tmp 56) (Operand.tmp 58) rfl W2.heap.size (.slice vo nvv vc) nvv xsv rfl hov (u3.heap.size) 1 (by go_simp) (#[.int .i64 k5, .string t5, .slice no5 nn5 nc5, .slice ao6 an6 ac6] : Array Value).toList rfl (fun i u hu => by rw [Lib.cell_of_heap HR6.out]; simpa using hu) (by intro u hu; simp at hu; rcases hu with rfl | rfl | rfl | rfl <;> rfl) (by omega) hBv ?_
                    intro vv' u7 hn7 hg7 hv7
                    obtain ⟨vo', vc', rfl⟩ := own_form hn7
                    have HM7 := Lib.hid (hpush _ _ hn7 hg7 hv7)
                    have HS7 : Hid (EB u7 p9 k5 t5 (.slice no5 nn5 nc5) (.slice ao6 an6 ac6)) := HM7.out.row
                    clear hn7 hg7 hv7 hov hpush
                    refine hK.out _ _ HS7.out (fun hHeld => ?_)
                    clear hK K
                    try simp only [List.getElem_toArray, List.getElem_cons_succ, List.getElem_cons_zero, Act.put, List.setIfInBounds_toArray, List.set_cons_zero, List.set_cons_succ]
                    refine wpAnyH_take (i := 8) (v := Value.slice mo' (nm + 1) mc') rfl (by kernel_rfl) (by kernel_rfl) (by kernel_rfl) (fun _ _ _ h => h) (Or.inl ⟨rfl, fun w' hw' => ?_⟩) hHeld ?_
                    · go_simp
                    simp only [List.getElem_toArray, List.getElem_cons_succ, List.getElem_cons_zero, Act.put, List.setIfInBounds_toArray, List.set_cons_zero, List.set_cons_succ]
                    refine wpAnyH_take (i := 9) (v := Value.slice vo' (nvv + 1) vc') rfl (by kernel_rfl) (by kernel_rfl) (by kernel_rfl) (fun _ _ _ h => h) (Or.inl ⟨rfl, fun w' hw' => ?_⟩) hHeld ?_
                    · go_simp
                    simp only [List.getElem_toArray, List.getElem_cons_succ, List.getElem_cons_zero, Act.put, List.setIfInBounds_toArray, List.set_cons_zero, List.set_cons_succ]
                    refine wpAnyH_done (by kernel_rfl) ?_ _
                    refine NoPanic.normal ?_
                    clear hHeld

                    go_wp2_with fail
                    refine (var_any pnm u7).mono ?_
                    rintro r u12 ⟨rfl, hb12⟩
                    have HM12 := Lib.hid (HM7.out.below hgW2 hneg hb12)
                    have hr12 : u12.heap[p9]? = some (.cells #[.int .i64 k5, .string t5, .slice no5 nn5 nc5, .slice ao6 an6 ac6] 28 (0, 0)) := HM12.out.row
                    have HR12 := Lib.hid hr12
                    have zv : (#[.int .i64 5, .string pnm, .slice none 0 0, .slice none 0 0] : Array Value).all (·.oneCell') = true := by simp [Value.oneCell']
                    have HMID := Lib.hid (HM12.out.setP hgW2 hgeb pnm)
                    have hmp1 : nms ++ [pnm] = (ps ++ [(pnm, x5)]).map (·.1) := by rw [List.map_append, ← HNS.out]; rfl
                    have hmp2 : vals ++ [x5] = (ps ++ [(pnm, x5)]).map (·.2) := by rw [List.map_append, ← HVS.out]; rfl
                    rw [hmp1, hmp2] at HMID
                    clear hb12 hr12 HM12 hmp1 hmp2
                    go_upto_region 13 with (refine wpList_store_row rfl 28 _ _ rfl p9 #[.int .i64 5, .string pnm, .slice none 0 0, .slice none 0 0] rfl rfl 28 _ HR12.out info28 rfl zv ?_)
                    try simp only [Act.put]
                    generalize u12.setRow p9 #[.int .i64 5, .string pnm, .slice none 0 0, .slice none 0 0] = w12 at HMID ⊢
                    clear HR12 zv
                    obtain ⟨xs, hx8, hB8, c3, hc9⟩ := HMID.out.app hgW2 hgeb hneg rfl
                    rw [HNPL.out] at hx8 hc9
                    have HX8 := Lib.hid hx8
                    have HC9 := Lib.hid hc9
                    have hr8 : w12.heap[p9]? = some (.cells #[.int .i64 5, .string pnm, .slice none 0 0, .slice none 0 0] 28 (0, 0)) := HMID.out.row
                    obtain ⟨f0, f1, f2, f3⟩ := EB.cell _ _ _ _ _ _ (show EB w12 p9 _ _ _ _ from hr8)
                    have c3' : w12.cell? ⟨ge, 3, none⟩ = some (.slice ao5 np ac5) := (EB.cell _ _ _ _ _ _ HMID.out.eb).2.2.2
                    clear hx8 hc9 hr8 HMID
                    go_wp2_with (at_builtin; refine wpList_app rfl (Operand.tmp 63) (Operand.tmp 65) rfl W2.heap.size (.slice ao5 np ac5) np xs rfl HX8.out w12.heap.size 1 rfl (#[.int .i64 5, .string pnm, .slice none 0 0, .slice none 0 0] : Array Value).toList rfl (row_cellsT _ 28 _) (by intro u hu; simp at hu; rcases hu with rfl | rfl | rfl | rfl <;> rfl) hml2 hB8 ?_; intro av' w9 hown9 hg9 hv9; obtain ⟨ao', ac', rfl⟩ := own_form hown9; obtain ⟨c9, f9, hrest9⟩ := HC9.out _ _ hown9 hg9 hv9; have HRE := Lib.hid hrest9; clear hrest9 hown9 hg9 hv9)
                    go_roundw
                    case rel => exact HREL.out _ _ _ _ _ HSN2.out HRE.out
                    case measure => simp [intOf]; omega
                  · skip
                    have hlt6 : ∀ x, (Value.slice mo nm mc).ownBlock = some x → x < (X9.alloc (.cells #[.string pnm] 9)).heap.size := fun x hx => (HM2.out.nam.lt hx).2
                    have HM6 := Lib.hid (HM2.out.below hgW2 hneg (w' := (X9.alloc (.cells #[.string pnm] 9)).alloc (.cells #[.int .i64 k5, .string t5, .slice no5 nn5 nc5, .slice ao6 an6 ac6] 28)) ((Below.refl _ _).alloc (Nat.le_refl _) _))
                    have HS6 : Hid (EB ((X9.alloc (.cells #[.string pnm] 9)).alloc (.cells #[.int .i64 k5, .string t5, .slice no5 nn5 nc5, .slice ao6 an6 ac6] 28)) p9 k5 t5 (.slice no5 nn5 nc5) (.slice ao6 an6 ac6)) := HM6.out.row
                    have HR6 : Hid (((X9.alloc (.cells #[.string pnm] 9)).alloc (.cells #[.int .i64 k5, .string t5, .slice no5 nn5 nc5, .slice ao6 an6 ac6] 28)).heap[(X9.alloc (.cells #[.string pnm] 9)).heap.size]? = some (.cells #[.int .i64 k5, .string t5, .slice no5 nn5 nc5, .slice ao6 an6 ac6] 28 (0, 0))) := alloc_at _ _
                    have HNT6 := Lib.hid (HNT.out.keeps (Keeps.of_below (w' := (X9.alloc (.cells #[.string pnm] 9)).alloc (.cells #[.int .i64 k5, .string t5, .slice no5 nn5 nc5, .slice ao6 an6 ac6] 28)) ((Below.refl _ _).alloc (Nat.le_refl _) _)))
                    go_simp
                    refine hK.out _ _ HS6.out (fun hHeld => ?_)
                    clear hK K
                    try simp only [List.getElem_toArray, List.getElem_cons_succ, List.getElem_cons_zero, Act.put, List.setIfInBounds_toArray, List.set_cons_zero, List.set_cons_succ]
                    refine wpAnyH_ready (rs := [3]) (by kernel_rfl) (by simp) ?_
                    refine (AllReadyH.cons rfl (fun K hK => ?_) AllReadyH.nil)
                    refine wp_appNr (Operand.tmp 52) (Operand.tmp 54) rfl W2.heap.size (.slice mo nm mc) nms rfl HM6.out.nam (.slice (some ⟨X9.heap.size, 0, none⟩) 1 1) [pnm] (by go_simp) HNT6.out (by simp; omega) HM6.out.but.size rfl ?_
                    intro nm' u3 hn3 hg3 hx3
                    obtain ⟨mo', mc', hvn⟩ := own_form hn3
                    rw [List.length_append, HNML.out] at hvn
                    subst hvn
                    have HM3 := Lib.hid (HM6.out.name hgW2 hgeb pnm hn3 hg3 hx3)
                    have HS3 : Hid (EB u3 p9 k5 t5 (.slice no5 nn5 nc5) (.slice ao6 an6 ac6)) := HM3.out.row
                    have HR3 : Hid (u3.heap[(X9.alloc (.cells #[.string pnm] 9)).heap.size]? = some (.cells #[.int .i64 k5, .string t5, .slice no5 nn5 nc5, .slice ao6 an6 ac6] 28 (0, 0))) := hg3.row HR6.out (fun e => by have := hlt6 _ e; omega)
                    clear hn3 hg3 hx3
                    refine hK.out _ _ HS3.out (fun hHeld => ?_)
                    clear hK K
                    try simp only [List.getElem_toArray, List.getElem_cons_succ, List.getElem_cons_zero, Act.put, List.setIfInBounds_toArray, List.set_cons_zero, List.set_cons_succ]
                    refine wpAnyH_ready (rs := [7]) (by kernel_rfl) (by simp) ?_
                    refine (AllReadyH.cons rfl (fun K hK => ?_) AllReadyH.nil)
                    obtain ⟨xsv, hov, hBv, hpush⟩ := HM3.out.value hgW2 hgeb hneg rfl
                    rw [HNVL.out] at hov hpush
                    refine wp_appT (Operand.tmp 56) (Operand.tmp 58) rfl W2.heap.size (.slice vo nvv vc) nvv xsv rfl hov ((X9.alloc (.cells #[.string pnm] 9)).heap.size) 1 (by go_simp) (#[.int .i64 k5, .string t5, .slice no5 nn5 nc5, .slice ao6 an6 ac6] : Array Value).toList rfl (fun i u hu => by rw [Lib.cell_of_heap HR3.out]; simpa using hu) (by intro u hu; simp at hu; rcases hu with rfl | rfl | rfl | rfl <;> rfl) (by omega) hBv ?_
                    intro vv' u7 hn7 hg7 hv7
                    obtain ⟨vo', vc', rfl⟩ := own_form hn7
                    have HM7 := Lib.hid (hpush _ _ hn7 hg7 hv7)
                    have HS7 : Hid (EB u7 p9 k5 t5 (.slice no5 nn5 nc5) (.slice ao6 an6 ac6)) := HM7.out.row
                    clear hn7 hg7 hv7 hov hpush
                    refine hK.out _ _ HS7.out (fun hHeld => ?_)
                    clear hK K
                    try simp only [List.getElem_toArray, List.getElem_cons_succ, List.getElem_cons_zero, Act.put, List.setIfInBounds_toArray, List.set_cons_zero, List.set_cons_succ]
                    refine wpAnyH_take (i := 8) (v := Value.slice mo' (nm + 1) mc') rfl (by kernel_rfl) (by kernel_rfl) (by kernel_rfl) (fun _ _ _ h => h) (Or.inl ⟨rfl, fun w' hw' => ?_⟩) hHeld ?_
                    · go_simp
                    simp only [List.getElem_toArray, List.getElem_cons_succ, List.getElem_cons_zero, Act.put, List.setIfInBounds_toArray, List.set_cons_zero, List.set_cons_succ]
                    refine wpAnyH_take (i := 9) (v := Value.slice vo' (nvv + 1) vc') rfl (by kernel_rfl) (by kernel_rfl) (by kernel_rfl) (fun _ _ _ h => h) (Or.inl ⟨rfl, fun w' hw' => ?_⟩) hHeld ?_
                    · go_simp
                    simp only [List.getElem_toArray, List.getElem_cons_succ, List.getElem_cons_zero, Act.put, List.setIfInBounds_toArray, List.set_cons_zero, List.set_cons_succ]
                    refine wpAnyH_done (by kernel_rfl) ?_ _
                    refine NoPanic.normal ?_
                    clear hHeld

                    go_wp2_with fail
                    refine (var_any pnm u7).mono ?_
                    rintro r u12 ⟨rfl, hb12⟩
                    have HM12 := Lib.hid (HM7.out.below hgW2 hneg hb12)
                    have hr12 : u12.heap[p9]? = some (.cells #[.int .i64 k5, .string t5, .slice no5 nn5 nc5, .slice ao6 an6 ac6] 28 (0, 0)) := HM12.out.row
                    have HR12 := Lib.hid hr12
                    have zv : (#[.int .i64 5, .string pnm, .slice none 0 0, .slice none 0 0] : Array Value).all (·.oneCell') = true := by simp [Value.oneCell']
                    have HMID := Lib.hid (HM12.out.setP hgW2 hgeb pnm)
                    have hmp1 : nms ++ [pnm] = (ps ++ [(pnm, x5)]).map (·.1) := by rw [List.map_append, ← HNS.out]; rfl
                    have hmp2 : vals ++ [x5] = (ps ++ [(pnm, x5)]).map (·.2) := by rw [List.map_append, ← HVS.out]; rfl
                    rw [hmp1, hmp2] at HMID
                    clear hb12 hr12 HM12 hmp1 hmp2
                    go_upto_region 13 with (refine wpList_store_row rfl 28 _ _ rfl p9 #[.int .i64 5, .string pnm, .slice none 0 0, .slice none 0 0] rfl rfl 28 _ HR12.out info28 rfl zv ?_)
                    try simp only [Act.put]
                    generalize u12.setRow p9 #[.int .i64 5, .string pnm, .slice none 0 0, .slice none 0 0] = w12 at HMID ⊢
                    clear HR12 zv
                    obtain ⟨xs, hx8, hB8, c3, hc9⟩ := HMID.out.app hgW2 hgeb hneg rfl
                    rw [HNPL.out] at hx8 hc9
                    have HX8 := Lib.hid hx8
                    have HC9 := Lib.hid hc9
                    have hr8 : w12.heap[p9]? = some (.cells #[.int .i64 5, .string pnm, .slice none 0 0, .slice none 0 0] 28 (0, 0)) := HMID.out.row
                    obtain ⟨f0, f1, f2, f3⟩ := EB.cell _ _ _ _ _ _ (show EB w12 p9 _ _ _ _ from hr8)
                    have c3' : w12.cell? ⟨ge, 3, none⟩ = some (.slice ao5 np ac5) := (EB.cell _ _ _ _ _ _ HMID.out.eb).2.2.2
                    clear hx8 hc9 hr8 HMID
                    go_wp2_with (at_builtin; refine wpList_app rfl (Operand.tmp 63) (Operand.tmp 65) rfl W2.heap.size (.slice ao5 np ac5) np xs rfl HX8.out w12.heap.size 1 rfl (#[.int .i64 5, .string pnm, .slice none 0 0, .slice none 0 0] : Array Value).toList rfl (row_cellsT _ 28 _) (by intro u hu; simp at hu; rcases hu with rfl | rfl | rfl | rfl <;> rfl) hml2 hB8 ?_; intro av' w9 hown9 hg9 hv9; obtain ⟨ao', ac', rfl⟩ := own_form hown9; obtain ⟨c9, f9, hrest9⟩ := HC9.out _ _ hown9 hg9 hv9; have HRE := Lib.hid hrest9; clear hrest9 hown9 hg9 hv9)
                    go_roundw
                    case rel => exact HREL.out _ _ _ _ _ HSN2.out HRE.out
                    case measure => simp [intOf]; omega
                · skip
                  have hlt6 : ∀ x, (Value.slice mo nm mc).ownBlock = some x → x < X9.heap.size := fun x hx => (HM0.out.nam.lt hx).2
                  have HM6 := Lib.hid (HM0.out.below hgW2 hneg (w' := X9.alloc (.cells #[.int .i64 k5, .string t5, .slice no5 nn5 nc5, .slice ao6 an6 ac6] 28)) ((Below.refl _ _).alloc (Nat.le_refl _) _))
                  have HS6 : Hid (EB (X9.alloc (.cells #[.int .i64 k5, .string t5, .slice no5 nn5 nc5, .slice ao6 an6 ac6] 28)) p9 k5 t5 (.slice no5 nn5 nc5) (.slice ao6 an6 ac6)) := HM6.out.row
                  have HR6 : Hid ((X9.alloc (.cells #[.int .i64 k5, .string t5, .slice no5 nn5 nc5, .slice ao6 an6 ac6] 28)).heap[X9.heap.size]? = some (.cells #[.int .i64 k5, .string t5, .slice no5 nn5 nc5, .slice ao6 an6 ac6] 28 (0, 0))) := alloc_at _ _
                  go_simp
                  refine hK.out _ _ HS6.out (fun hHeld => ?_)
                  clear hK K
                  try simp only [List.getElem_toArray, List.getElem_cons_succ, List.getElem_cons_zero, Act.put, List.setIfInBounds_toArray, List.set_cons_zero, List.set_cons_succ]
                  refine wpAnyH_ready (rs := [2]) (by kernel_rfl) (by simp) ?_
                  refine (AllReadyH.cons rfl (fun K hK => ?_) AllReadyH.nil)
                  have HM2 := Lib.hid (HM6.out.below hgW2 hneg (w' := (X9.alloc (.cells #[.int .i64 k5, .string t5, .slice no5 nn5 nc5, .slice ao6 an6 ac6] 28)).alloc (.cells #[.string pnm] 9)) ((Below.refl _ _).alloc (Nat.le_refl _) _))
                  have HS2 : Hid (EB ((X9.alloc (.cells #[.int .i64 k5, .string t5, .slice no5 nn5 nc5, .slice ao6 an6 ac6] 28)).alloc (.cells #[.string pnm] 9)) p9 k5 t5 (.slice no5 nn5 nc5) (.slice ao6 an6 ac6)) := HM2.out.row
                  have HNT := Lib.hid (one_name (X9.alloc (.cells #[.int .i64 k5, .string t5, .slice no5 nn5 nc5, .slice ao6 an6 ac6] 28)) pnm)
                  have HR2 : Hid (((X9.alloc (.cells #[.int .i64 k5, .string t5, .slice no5 nn5 nc5, .slice ao6 an6 ac6] 28)).alloc (.cells #[.string pnm] 9)).heap[X9.heap.size]? = some (.cells #[.int .i64 k5, .string t5, .slice no5 nn5 nc5, .slice ao6 an6 ac6] 28 (0, 0))) := row_below ((Below.refl _ _).alloc (Nat.le_refl _) _) HR6.out
                  go_simp
                  refine hK.out _ _ HS2.out (fun hHeld => ?_)
                  clear hK K
                  try simp only [List.getElem_toArray, List.getElem_cons_succ, List.getElem_cons_zero, Act.put, List.setIfInBounds_toArray, List.set_cons_zero, List.set_cons_succ]
                  refine wpAnyH_ready (rs := [3]) (by kernel_rfl) (by simp) ?_
                  refine (AllReadyH.cons rfl (fun K hK => ?_) AllReadyH.nil)
                  refine wp_appNr (Operand.tmp 52) (Operand.tmp 54) rfl W2.heap.size (.slice mo nm mc) nms rfl HM2.out.nam (.slice (some ⟨(X9.alloc (.cells #[.int .i64 k5, .string t5, .slice no5 nn5 nc5, .slice ao6 an6 ac6] 28)).heap.size, 0, none⟩) 1 1) [pnm] (by go_simp) HNT.out (by simp; omega) HM2.out.but.size rfl ?_
                  intro nm' u3 hn3 hg3 hx3
                  obtain ⟨mo', mc', hvn⟩ := own_form hn3
                  rw [List.length_append, HNML.out] at hvn
                  subst hvn
                  have HM3 := Lib.hid (HM2.out.name hgW2 hgeb pnm hn3 hg3 hx3)
                  have HS3 : Hid (EB u3 p9 k5 t5 (.slice no5 nn5 nc5) (.slice ao6 an6 ac6)) := HM3.out.row
                  have HR3 : Hid (u3.heap[X9.heap.size]? = some (.cells #[.int .i64 k5, .string t5, .slice no5 nn5 nc5, .slice ao6 an6 ac6] 28 (0, 0))) := hg3.row HR2.out (fun e => by have := hlt6 _ e; omega)
                  clear hn3 hg3 hx3
                  refine hK.out _ _ HS3.out (fun hHeld => ?_)
                  clear hK K
                  try simp only [List.getElem_toArray, List.getElem_cons_succ, List.getElem_cons_zero, Act.put, List.setIfInBounds_toArray, List.set_cons_zero, List.set_cons_succ]
                  refine wpAnyH_ready (rs := [7]) (by kernel_rfl) (by simp) ?_
                  refine (AllReadyH.cons rfl (fun K hK => ?_) AllReadyH.nil)
                  obtain ⟨xsv, hov, hBv, hpush⟩ := HM3.out.value hgW2 hgeb hneg rfl
                  rw [HNVL.out] at hov hpush
                  refine wp_appT (Operand.tmp 56) (Operand.tmp 58) rfl W2.heap.size (.slice vo nvv vc) nvv xsv rfl hov (X9.heap.size) 1 (by go_simp) (#[.int .i64 k5, .string t5, .slice no5 nn5 nc5, .slice ao6 an6 ac6] : Array Value).toList rfl (fun i u hu => by rw [Lib.cell_of_heap HR3.out]; simpa using hu) (by intro u hu; simp at hu; rcases hu with rfl | rfl | rfl | rfl <;> rfl) (by omega) hBv ?_
                  intro vv' u7 hn7 hg7 hv7
                  obtain ⟨vo', vc', rfl⟩ := own_form hn7
                  have HM7 := Lib.hid (hpush _ _ hn7 hg7 hv7)
                  have HS7 : Hid (EB u7 p9 k5 t5 (.slice no5 nn5 nc5) (.slice ao6 an6 ac6)) := HM7.out.row
                  clear hn7 hg7 hv7 hov hpush
                  refine hK.out _ _ HS7.out (fun hHeld => ?_)
                  clear hK K
                  try simp only [List.getElem_toArray, List.getElem_cons_succ, List.getElem_cons_zero, Act.put, List.setIfInBounds_toArray, List.set_cons_zero, List.set_cons_succ]
                  refine wpAnyH_take (i := 8) (v := Value.slice mo' (nm + 1) mc') rfl (by kernel_rfl) (by kernel_rfl) (by kernel_rfl) (fun _ _ _ h => h) (Or.inl ⟨rfl, fun w' hw' => ?_⟩) hHeld ?_
                  · go_simp
                  simp only [List.getElem_toArray, List.getElem_cons_succ, List.getElem_cons_zero, Act.put, List.setIfInBounds_toArray, List.set_cons_zero, List.set_cons_succ]
                  refine wpAnyH_take (i := 9) (v := Value.slice vo' (nvv + 1) vc') rfl (by kernel_rfl) (by kernel_rfl) (by kernel_rfl) (fun _ _ _ h => h) (Or.inl ⟨rfl, fun w' hw' => ?_⟩) hHeld ?_
                  · go_simp
                  simp only [List.getElem_toArray, List.getElem_cons_succ, List.getElem_cons_zero, Act.put, List.setIfInBounds_toArray, List.set_cons_zero, List.set_cons_succ]
                  refine wpAnyH_done (by kernel_rfl) ?_ _
                  refine NoPanic.normal ?_
                  clear hHeld

                  go_wp2_with fail
                  refine (var_any pnm u7).mono ?_
                  rintro r u12 ⟨rfl, hb12⟩
                  have HM12 := Lib.hid (HM7.out.below hgW2 hneg hb12)
                  have hr12 : u12.heap[p9]? = some (.cells #[.int .i64 k5, .string t5, .slice no5 nn5 nc5, .slice ao6 an6 ac6] 28 (0, 0)) := HM12.out.row
                  have HR12 := Lib.hid hr12
                  have zv : (#[.int .i64 5, .string pnm, .slice none 0 0, .slice none 0 0] : Array Value).all (·.oneCell') = true := by simp [Value.oneCell']
                  have HMID := Lib.hid (HM12.out.setP hgW2 hgeb pnm)
                  have hmp1 : nms ++ [pnm] = (ps ++ [(pnm, x5)]).map (·.1) := by rw [List.map_append, ← HNS.out]; rfl
                  have hmp2 : vals ++ [x5] = (ps ++ [(pnm, x5)]).map (·.2) := by rw [List.map_append, ← HVS.out]; rfl
                  rw [hmp1, hmp2] at HMID
                  clear hb12 hr12 HM12 hmp1 hmp2
                  go_upto_region 13 with (refine wpList_store_row rfl 28 _ _ rfl p9 #[.int .i64 5, .string pnm, .slice none 0 0, .slice none 0 0] rfl rfl 28 _ HR12.out info28 rfl zv ?_)
                  try simp only [Act.put]
                  generalize u12.setRow p9 #[.int .i64 5, .string pnm, .slice none 0 0, .slice none 0 0] = w12 at HMID ⊢
                  clear HR12 zv
                  obtain ⟨xs, hx8, hB8, c3, hc9⟩ := HMID.out.app hgW2 hgeb hneg rfl
                  rw [HNPL.out] at hx8 hc9
                  have HX8 := Lib.hid hx8
                  have HC9 := Lib.hid hc9
                  have hr8 : w12.heap[p9]? = some (.cells #[.int .i64 5, .string pnm, .slice none 0 0, .slice none 0 0] 28 (0, 0)) := HMID.out.row
                  obtain ⟨f0, f1, f2, f3⟩ := EB.cell _ _ _ _ _ _ (show EB w12 p9 _ _ _ _ from hr8)
                  have c3' : w12.cell? ⟨ge, 3, none⟩ = some (.slice ao5 np ac5) := (EB.cell _ _ _ _ _ _ HMID.out.eb).2.2.2
                  clear hx8 hc9 hr8 HMID
                  go_wp2_with (at_builtin; refine wpList_app rfl (Operand.tmp 63) (Operand.tmp 65) rfl W2.heap.size (.slice ao5 np ac5) np xs rfl HX8.out w12.heap.size 1 rfl (#[.int .i64 5, .string pnm, .slice none 0 0, .slice none 0 0] : Array Value).toList rfl (row_cellsT _ 28 _) (by intro u hu; simp at hu; rcases hu with rfl | rfl | rfl | rfl <;> rfl) hml2 hB8 ?_; intro av' w9 hown9 hg9 hv9; obtain ⟨ao', ac', rfl⟩ := own_form hown9; obtain ⟨c9, f9, hrest9⟩ := HC9.out _ _ hown9 hg9 hv9; have HRE := Lib.hid hrest9; clear hrest9 hown9 hg9 hv9)
                  go_roundw
                  case rel => exact HREL.out _ _ _ _ _ HSN2.out HRE.out
                  case measure => simp [intOf]; omega
              · have hsn := HSN.out a[j]
                rw [← take_snoc_et a j hlt, ← HMM.out, ← HMD.out, ← HPS.out, ← HX5.out, ← HM5.out, hs2, hb] at hsn
                have HSN2 : Hid (Et.nrms k t n 0 (a.take (j + 1)) = (m5, made ++ [x5], ps)) := hsn
                rw [HVS.out, HNS.out] at HMID
                clear hsn HSN hb hs2
                obtain ⟨xs, hx8, hB8, c3, hc9⟩ := HMID.out.app hgW2 hgeb hneg rfl
                rw [HNPL.out] at hx8 hc9
                have HX8 := Lib.hid hx8
                have HC9 := Lib.hid hc9
                have hr8 : u8.heap[p9]? = some (.cells #[.int .i64 k5, .string t5, .slice no5 nn5 nc5, .slice ao6 an6 ac6] 28 (0, 0)) := HMID.out.row
                obtain ⟨f0, f1, f2, f3⟩ := EB.cell _ _ _ _ _ _ (show EB u8 p9 _ _ _ _ from hr8)
                have c3' : u8.cell? ⟨ge, 3, none⟩ = some (.slice ao5 np ac5) := (EB.cell _ _ _ _ _ _ HMID.out.eb).2.2.2
                clear hx8 hc9 hr8 HMID
                go_wp2_with (at_builtin; refine wpList_app rfl (Operand.tmp 63) (Operand.tmp 65) rfl W2.heap.size (.slice ao5 np ac5) np xs rfl HX8.out u8.heap.size 1 rfl (#[.int .i64 k5, .string t5, .slice no5 nn5 nc5, .slice ao6 an6 ac6] : Array Value).toList rfl (row_cellsT _ 28 _) (by intro u hu; simp at hu; rcases hu with rfl | rfl | rfl | rfl <;> rfl) hml2 hB8 ?_; intro av' w9 hown9 hg9 hv9; obtain ⟨ao', ac', rfl⟩ := own_form hown9; obtain ⟨c9, f9, hrest9⟩ := HC9.out _ _ hown9 hg9 hv9; have HRE := Lib.hid hrest9; clear hrest9 hown9 hg9 hv9)
                go_roundw
                case rel => exact HREL.out _ _ _ _ _ HSN2.out HRE.out
                case measure => simp [intOf]; omega
            · have p1 : decide (z ≤ (j : Int)) = false := decide_eq_false hzj
              have hs2 : slot k t (0 + (a.take j).length) = false := by rw [List.length_take, Nat.min_eq_left hj, Nat.zero_add, HSJ.out, p0, p1]; rfl
              have hsn := HSN.out a[j]
              rw [← take_snoc_et a j hlt, ← HMM.out, ← HMD.out, ← HPS.out, ← HX5.out, ← HM5.out, hs2] at hsn
              have HSN2 : Hid (Et.nrms k t n 0 (a.take (j + 1)) = (m5, made ++ [x5], ps)) := hsn
              rw [HVS.out, HNS.out] at HMID
              clear hsn HSN hs2 HNL HR8
              obtain ⟨xs, hx8, hB8, c3, hc9⟩ := HMID.out.app hgW2 hgeb hneg rfl
              rw [HNPL.out] at hx8 hc9
              have HX8 := Lib.hid hx8
              have HC9 := Lib.hid hc9
              have hr8 : w8.heap[p9]? = some (.cells #[.int .i64 k5, .string t5, .slice no5 nn5 nc5, .slice ao6 an6 ac6] 28 (0, 0)) := HMID.out.row
              obtain ⟨f0, f1, f2, f3⟩ := EB.cell _ _ _ _ _ _ (show EB w8 p9 _ _ _ _ from hr8)
              have c3' : w8.cell? ⟨ge, 3, none⟩ = some (.slice ao5 np ac5) := (EB.cell _ _ _ _ _ _ HMID.out.eb).2.2.2
              clear hx8 hc9 hr8 HMID
              go_wp2_with (at_builtin; refine wpList_app rfl (Operand.tmp 63) (Operand.tmp 65) rfl W2.heap.size (.slice ao5 np ac5) np xs rfl HX8.out w8.heap.size 1 rfl (#[.int .i64 k5, .string t5, .slice no5 nn5 nc5, .slice ao6 an6 ac6] : Array Value).toList rfl (row_cellsT _ 28 _) (by intro u hu; simp at hu; rcases hu with rfl | rfl | rfl | rfl <;> rfl) hml2 hB8 ?_; intro av' w9 hown9 hg9 hv9; obtain ⟨ao', ac', rfl⟩ := own_form hown9; obtain ⟨c9, f9, hrest9⟩ := HC9.out _ _ hown9 hg9 hv9; have HRE := Lib.hid hrest9; clear hrest9 hown9 hg9 hv9)
              go_roundw
              case rel => exact HREL.out _ _ _ _ _ HSN2.out HRE.out
              case measure => simp [intOf]; omega
          · have p0 : decide (0 ≤ z) = false := decide_eq_false hz0
            have hs2 : slot k t (0 + (a.take j).length) = false := by rw [List.length_take, Nat.min_eq_left hj, Nat.zero_add, HSJ.out, p0]; rfl
            have hsn := HSN.out a[j]
            rw [← take_snoc_et a j hlt, ← HMM.out, ← HMD.out, ← HPS.out, ← HX5.out, ← HM5.out, hs2] at hsn
            have HSN2 : Hid (Et.nrms k t n 0 (a.take (j + 1)) = (m5, made ++ [x5], ps)) := hsn
            rw [HVS.out, HNS.out] at HMID
            clear hsn HSN hs2 HNL HR8
            obtain ⟨xs, hx8, hB8, c3, hc9⟩ := HMID.out.app hgW2 hgeb hneg rfl
            rw [HNPL.out] at hx8 hc9
            have HX8 := Lib.hid hx8
            have HC9 := Lib.hid hc9
            have hr8 : w8.heap[p9]? = some (.cells #[.int .i64 k5, .string t5, .slice no5 nn5 nc5, .slice ao6 an6 ac6] 28 (0, 0)) := HMID.out.row
            obtain ⟨f0, f1, f2, f3⟩ := EB.cell _ _ _ _ _ _ (show EB w8 p9 _ _ _ _ from hr8)
            have c3' : w8.cell? ⟨ge, 3, none⟩ = some (.slice ao5 np ac5) := (EB.cell _ _ _ _ _ _ HMID.out.eb).2.2.2
            clear hx8 hc9 hr8 HMID
            go_wp2_with (at_builtin; refine wpList_app rfl (Operand.tmp 63) (Operand.tmp 65) rfl W2.heap.size (.slice ao5 np ac5) np xs rfl HX8.out w8.heap.size 1 rfl (#[.int .i64 k5, .string t5, .slice no5 nn5 nc5, .slice ao6 an6 ac6] : Array Value).toList rfl (row_cellsT _ 28 _) (by intro u hu; simp at hu; rcases hu with rfl | rfl | rfl | rfl <;> rfl) hml2 hB8 ?_; intro av' w9 hown9 hg9 hv9; obtain ⟨ao', ac', rfl⟩ := own_form hown9; obtain ⟨c9, f9, hrest9⟩ := HC9.out _ _ hown9 hg9 hv9; have HRE := Lib.hid hrest9; clear hrest9 hown9 hg9 hv9)
            go_roundw
            case rel => exact HREL.out _ _ _ _ _ HSN2.out HRE.out
            case measure => simp [intOf]; omega
        · have q1 : decide ((j : Int) < (a.length : Int)) = false := decide_eq_false (by omega)
          obtain ⟨wo, rfl⟩ : ∃ wo, wo = wr := ⟨_, rfl⟩
          obtain rfl : j = a.length := by omega
          have hta : a.take a.length = a := List.take_length
          have hmd := HMD.out
          have hps := HPS.out
          have hmm := HMM.out
          rw [hta] at hmd hps hmm
          have hnt : NAt (fun x => W1.heap.size ≤ x ∧ x ≠ ge) wo (.slice no' ns.length nc') ns := by
            have h1 := (HXN.out.at).bound
            refine NAt.mono (NAt.keeps (S := fun x => (W1.heap.size ≤ x ∧ (Value.slice no' ns.length nc').ownBlock = some x) ∧ x < W2.heap.size) h1 (fun x c T fz hx hxx _ => ⟨fz, ?_⟩)) (fun x hx => ⟨hx.1.1, HAP.out x hx.1.2⟩)
            rw [HMI.out.but.block x hx.2 (by have := hx.1.1; omega) (HAP.out x hx.1.2)]; exact hxx
          have hat : Et.At (fun x => W1.heap.size ≤ x ∧ x ≠ ge) wo (.mk k t ns made) #[.int .i64 k, .string t, (.slice no' ns.length nc'), .slice ao5 np ac5] := by
            rw [EAt_mk]
            exact ⟨_, _, rfl, hnt, HMI.out.own.at.mono (fun x hx => by have : W2.heap.size ≤ x := hx; exact ⟨by omega, by omega⟩)⟩
          have hnm2 : NAt (fun x => W2.heap.size ≤ x) wo (.slice mo nm mc) nms := NAt.mono HMI.out.nam.at (fun x hx => hx.1)
          have HNT := Lib.hid hnm2
          have HVT := Lib.hid (HMI.out.val.at)
          have HCNT : Hid (Rk wo g ((Et.mk k t ns a).nrm n).1) := by rw [HEQ.out, ← hmm]; exact HMI.out.cn
          have HLT : Hid (((Et.mk k t ns a).nrm n).2 = lets ps (.mk k t ns made)) := by show ((Et.mk k t ns a).nrm n).2 = lets ps (.mk k t ns made); rw [HEQ.out, ← hps, ← hmd]
          have HST : Hid (RLet ps (.mk k t ns made) W1.heap.size ge wo (.int .i64 (nm : Int)) wo) := ⟨ps.length, _, Nat.le_refl _, by rw [HPL.out], HMI.out.eb, by rw [List.drop_length]; exact hat, But.refl _ _ _⟩
          have HGR : Hid (wo.heap[gr]? = some (.cells Z4 28 (0, 0))) := by
            show _ = _
            rw [HB1r.out.block gr hgr1 (by omega)]; exact HZ.out
          have hgrge : gr ≠ ge := by omega
          have hgwr : ge < wo.heap.size := by omega
          clear hta hmd hps hmm hnt hat hnm2
          go_wp2_with fail
          go_loopw [12] (fun iv wr' => RLet ps (.mk k t ns made) W1.heap.size ge wo iv wr') (fun iv _ => (intOf iv).toNat)
          case atStart => exact HST.out
          case round =>
            obtain ⟨i, cs, hi, rfl, hrow, hatx, hbx⟩ := hrel
            obtain ⟨k8, t8, no8, nn8, nc8, ao8, an8, ac8, rfl⟩ := EAt_sl hatx
            have HROW : Hid (EB wr ge k8 t8 (.slice no8 nn8 nc8) (.slice ao8 an8 ac8)) := hrow
            have HATX := Lib.hid hatx
            have HBX := Lib.hid hbx
            clear HST hrow hatx hbx
            by_cases hi0 : 0 < i
            · have q3 : decide (0 < (i : Int)) = true := decide_eq_true (by omega)
              obtain ⟨q, hq⟩ : ∃ q, i = q + 1 := ⟨i - 1, by omega⟩
              have e1 : (i : Int) - 1 = (q : Int) := by omega
              have hpl := HPL.out
              have hnv := HNV.out
              have hqm : q < nm := by omega
              have hqv : q < nvv := by omega
              have hqp : q < ps.length := by omega
              have hql : q < nms.length := by rw [HNML.out]; exact hqm
              have hqvl : q < vals.length := by rw [HNVL.out]; exact hqv
              have hnt2 : NAt (fun x => W2.heap.size ≤ x) wr (.slice mo nm mc) nms := HNT.out.keeps (HBX.out.keeps (fun x hx => by have : W2.heap.size ≤ x := hx; omega))
              have hvt2 := AAt.keeps HVT.out (HBX.out.keeps (fun x hx => by have : W2.heap.size ≤ x := hx; omega))
              obtain ⟨gm, om, hmo, -, cn⟩ := hnt2.get q hql
              obtain ⟨gv, ov, k7, t7, nv7, av7, hvo, -, -, hat7, e0, e1', e2, e3, -, -⟩ := hvt2.get q hqvl
              subst hmo hvo
              obtain ⟨no7, nn7, nc7, ao7, an7, ac7, rfl, rfl⟩ : ∃ nod nnd ncd aod ad cd, nv7 = .slice nod nnd ncd ∧ av7 = .slice aod ad cd := by
                obtain ⟨k3, t3, no2, nn2, nc2, ao4, an2, ac2, e4⟩ := EAt_sl hat7
                simp only [Array.mk.injEq, List.cons.injEq, Value.int.injEq, Value.string.injEq, and_true, true_and] at e4
                exact ⟨_, _, _, _, _, _, e4.2.2.1, e4.2.2.2⟩
              obtain ⟨sq, hsq⟩ : ∃ s, s = nms[q] := ⟨_, rfl⟩
              rw [← hsq] at cn
              have hsp : sq = (ps[q]'hqp).1 := by
                have : nms[q]? = some (ps[q]'hqp).1 := by rw [HNS.out]; simp [hqp]
                rw [List.getElem?_eq_getElem hql] at this
                injection this with this
                rw [hsq]; exact this
              have hvp : vals[q] = (ps[q]'hqp).2 := by
                have : vals[q]? = some (ps[q]'hqp).2 := by rw [HVS.out]; simp [hqp]
                rw [List.getElem?_eq_getElem hqvl] at this
                injection this with this
              obtain ⟨vq, hvq⟩ : ∃ v, v = (ps[q]'hqp).2 := ⟨_, rfl⟩
              rw [hvp, ← hvq] at hat7
              have hat7' : Et.At (fun x => W1.heap.size ≤ x ∧ x ≠ ge) wr vq #[.int .i64 k7, .string t7, .slice no7 nn7 nc7, .slice ao7 an7 ac7] := Et.At.mono (fun x hx => by have : W2.heap.size ≤ x := hx; exact ⟨by omega, by omega⟩) _ _ hat7
              have HLD : Hid (lets (ps.drop q) (.mk k t ns made) = ebind sq vq (lets (ps.drop i) (.mk k t ns made))) := by
                have h := lets_drop ps (q + 1) (by omega) (by omega) (.mk k t ns made)
                rw [hsp, hvq, hq]; exact h
              have HBD : Hid (∀ w', Below wr.heap.size wr w' → Calls Tryd.prog 27 #[.string sq, .agg #[.int .i64 k7, .string t7, .slice no7 nn7 nc7, .slice ao7 an7 ac7], .agg #[.int .i64 k8, .string t8, .slice no8 nn8 nc8, .slice ao8 an8 ac8]] w' (RetBind (fun x => W1.heap.size ≤ x ∧ x ≠ ge) sq vq (lets (ps.drop i) (.mk k t ns made)) w')) := fun w' hw' => bind_any sq _ _ _ _ _ w' (Et.At.keeps (Keeps.of_below hw') _ _ hat7') (Et.At.keeps (Keeps.of_below hw') _ _ HATX.out)
              have hge2 : ge < wr.heap.size := (Array.getElem?_eq_some_iff.1 HROW.out).1
              have hgm : gm ≠ ge := by
                rcases hnt2 with h | ⟨g0, o0, c0, a0, f0, e5, hS, -⟩
                · exact absurd h.2 (by intro e; rw [e] at hql; simp at hql)
                · injection e5 with e5
                  injection e5 with e5
                  injection e5 with e5
                  have : W2.heap.size ≤ g0 := hS
                  omega
              have hgv : gv ≠ ge := by
                rcases hvt2 with h | ⟨g0, o0, c0, a0, f0, e5, hS, -⟩
                · exact absurd h.2 (by intro e; rw [e] at hqvl; simp at hqvl)
                · injection e5 with e5
                  injection e5 with e5
                  injection e5 with e5
                  have : W2.heap.size ≤ g0 := hS
                  omega
              have hwr2 := HBX.out.size
              have HC17 : Hid (∀ w', But wr.heap.size ge wr w' → w'.cell? ⟨gm, om + q, none⟩ = some (.string sq) ∧ w'.cell? ⟨gv, ov + q * 4, none⟩ = some (.int .i64 k7) ∧ w'.cell? ⟨gv, ov + q * 4 + 1, none⟩ = some (.string t7) ∧ w'.cell? ⟨gv, ov + q * 4 + 2, none⟩ = some (.slice no7 nn7 nc7) ∧ w'.cell? ⟨gv, ov + q * 4 + 3, none⟩ = some (.slice ao7 an7 ac7)) := fun w' hw' => by
                have hcell : ∀ (p : Addr) v, wr.cell? p = some v → p.block ≠ ge → w'.cell? p = some v := fun p v h hne => by rw [hw'.cell (World.block_lt_of_cell? wr _ h) hne]; exact h
                exact ⟨hcell _ _ cn hgm, hcell _ _ e0 hgv, hcell _ _ e1' hgv, hcell _ _ e2 hgv, hcell _ _ e3 hgv⟩
              have hqi : q ≤ ps.length := by omega
              have HQ := Lib.hid hq
              clear hvq hq hpl hnv hat7 hat7' hsp hvp hsq cn e0 e1' e2 e3 hnt2 hvt2 hqp hql hqvl
              go_upto_region 17 with fail
              have HS0 : Hid (But wr.heap.size ge wr wr.drew) := (But.refl _ _ _).drew
              have HSB : Hid (Below wr.heap.size wr wr.drew) := (Below.refl _ _).drew
              refine wp_region_noPanic ?_
              refine wp_region_held_drew (S := fun w' => But wr.heap.size ge wr w') (by kernel_rfl) HS0.out (fun hHeld => ?_)
              generalize wr.drew = X7 at HS0 HSB hHeld ⊢
              refine wpAnyH_take (i := 0) (v := Value.slice (some ⟨gm, om, none⟩) nm mc) rfl (by kernel_rfl) (by kernel_rfl) (by kernel_rfl) (fun _ _ _ h => h) (Or.inl ⟨rfl, fun w' hw' => ?_⟩) hHeld ?_
              · go_simp
              simp only [List.getElem_toArray, List.getElem_cons_succ, List.getElem_cons_zero, Act.put, List.setIfInBounds_toArray, List.set_cons_zero, List.set_cons_succ]
              refine wpAnyH_take (i := 1) (v := Value.int .i64 (i : Int)) rfl (by kernel_rfl) (by kernel_rfl) (by kernel_rfl) (fun _ _ _ h => h) (Or.inl ⟨rfl, fun w' hw' => ?_⟩) hHeld ?_
              · go_simp
              simp only [List.getElem_toArray, List.getElem_cons_succ, List.getElem_cons_zero, Act.put, List.setIfInBounds_toArray, List.set_cons_zero, List.set_cons_succ]
              refine wpAnyH_take (i := 2) (v := Value.int .i64 (q : Int)) rfl (by kernel_rfl) (by kernel_rfl) (by kernel_rfl) (fun _ _ _ h => h) (Or.inl ⟨rfl, fun w' hw' => ?_⟩) hHeld ?_
              · go_simp; exact wrap_nat q (by omega)
              simp only [List.getElem_toArray, List.getElem_cons_succ, List.getElem_cons_zero, Act.put, List.setIfInBounds_toArray, List.set_cons_zero, List.set_cons_succ]
              refine wpAnyH_take (i := 3) (v := Value.pointer (some ⟨gm, om + q, none⟩)) rfl (by kernel_rfl) (by kernel_rfl) (by kernel_rfl) (fun _ _ _ h => h) (Or.inl ⟨rfl, fun w' hw' => ?_⟩) hHeld ?_
              · go_simp
              simp only [List.getElem_toArray, List.getElem_cons_succ, List.getElem_cons_zero, Act.put, List.setIfInBounds_toArray, List.set_cons_zero, List.set_cons_succ]
              refine wpAnyH_take (i := 4) (v := Value.string sq) rfl (by kernel_rfl) (by kernel_rfl) (by kernel_rfl) (fun _ _ _ h => h) (Or.inl ⟨rfl, fun w' hw' => ?_⟩) hHeld ?_
              · obtain ⟨p0, y0, y1, y2, y3⟩ := HC17.out w' hw'; go_simp
              simp only [List.getElem_toArray, List.getElem_cons_succ, List.getElem_cons_zero, Act.put, List.setIfInBounds_toArray, List.set_cons_zero, List.set_cons_succ]
              refine wpAnyH_take (i := 5) (v := Value.slice (some ⟨gv, ov, none⟩) nvv vc) rfl (by kernel_rfl) (by kernel_rfl) (by kernel_rfl) (fun _ _ _ h => h) (Or.inl ⟨rfl, fun w' hw' => ?_⟩) hHeld ?_
              · go_simp
              simp only [List.getElem_toArray, List.getElem_cons_succ, List.getElem_cons_zero, Act.put, List.setIfInBounds_toArray, List.set_cons_zero, List.set_cons_succ]
              refine wpAnyH_take (i := 6) (v := Value.int .i64 (i : Int)) rfl (by kernel_rfl) (by kernel_rfl) (by kernel_rfl) (fun _ _ _ h => h) (Or.inl ⟨rfl, fun w' hw' => ?_⟩) hHeld ?_
              · go_simp
              simp only [List.getElem_toArray, List.getElem_cons_succ, List.getElem_cons_zero, Act.put, List.setIfInBounds_toArray, List.set_cons_zero, List.set_cons_succ]
              refine wpAnyH_take (i := 7) (v := Value.int .i64 (q : Int)) rfl (by kernel_rfl) (by kernel_rfl) (by kernel_rfl) (fun _ _ _ h => h) (Or.inl ⟨rfl, fun w' hw' => ?_⟩) hHeld ?_
              · go_simp; exact wrap_nat q (by omega)
              simp only [List.getElem_toArray, List.getElem_cons_succ, List.getElem_cons_zero, Act.put, List.setIfInBounds_toArray, List.set_cons_zero, List.set_cons_succ]
              refine wpAnyH_take (i := 8) (v := Value.pointer (some ⟨gv, ov + q * 4, none⟩)) rfl (by kernel_rfl) (by kernel_rfl) (by kernel_rfl) (fun _ _ _ h => h) (Or.inl ⟨rfl, fun w' hw' => ?_⟩) hHeld ?_
              · go_simp
              simp only [List.getElem_toArray, List.getElem_cons_succ, List.getElem_cons_zero, Act.put, List.setIfInBounds_toArray, List.set_cons_zero, List.set_cons_succ]
              refine wpAnyH_take (i := 9) (v := Value.agg #[.int .i64 k7, .string t7, .slice no7 nn7 nc7, .slice ao7 an7 ac7]) rfl (by kernel_rfl) (by kernel_rfl) (by kernel_rfl) (fun _ _ _ h => h) (Or.inl ⟨rfl, fun w' hw' => ?_⟩) hHeld ?_
              · obtain ⟨p0, y0, y1, y2, y3⟩ := HC17.out w' hw'; go_simp
              simp only [List.getElem_toArray, List.getElem_cons_succ, List.getElem_cons_zero, Act.put, List.setIfInBounds_toArray, List.set_cons_zero, List.set_cons_succ]
              refine wpAnyH_ready (rs := [10]) (by kernel_rfl) (by simp) ?_
              refine (AllReadyH.cons rfl (fun K hK => ?_) AllReadyH.nil)
              obtain ⟨x0, x1, x2, x3⟩ := EB.cell _ _ _ _ _ _ (show EB X7 ge k8 t8 _ _ from row_below HSB.out HROW.out)
              go_simp
              clear x0 x1 x2 x3
              refine hK.out _ _ HS0.out (fun hHeld => ?_)
              clear hK K
              try simp only [List.getElem_toArray, List.getElem_cons_succ, List.getElem_cons_zero, Act.put, List.setIfInBounds_toArray, List.set_cons_zero, List.set_cons_succ]
              refine wpAnyH_ready (rs := [11]) (by kernel_rfl) (by simp) ?_
              refine (AllReadyH.cons rfl (fun K hK => ?_) AllReadyH.nil)
              go_simp
              refine (HBD.out X7 HSB.out).mono ?_
              rintro r u11 ⟨cs9, rfl, hat9, hb9⟩
              obtain ⟨k9, t9, no9, nn9, nc9, ao9, an9, ac9, rfl⟩ := EAt_sl hat9
              have HS11 : Hid (But wr.heap.size ge wr u11) := But.of (HSB.out.trans (hb9.mono HSB.out.size))
              have HR11 : Hid (EB u11 ge k8 t8 (.slice no8 nn8 nc8) (.slice ao8 an8 ac8)) := row_below hb9 (row_below HSB.out HROW.out)
              have hXs := HSB.out.size
              have HA11 : Hid (Et.At (fun x => W1.heap.size ≤ x ∧ x ≠ ge) (u11.setRow ge #[.int .i64 k9, .string t9, .slice no9 nn9 nc9, .slice ao9 an9 ac9]) (ebind sq vq (lets (ps.drop i) (.mk k t ns made))) #[.int .i64 k9, .string t9, .slice no9 nn9 nc9, .slice ao9 an9 ac9]) := by
                have h1 := Et.At.mono (T := fun x => W1.heap.size ≤ x ∧ x ≠ ge) (fun x hx => by rcases hx with hx | hx; exact hx; (have : X7.heap.size ≤ x := hx; exact ⟨by omega, by omega⟩)) _ _ hat9
                exact Et.At.keeps (S := fun x => W1.heap.size ≤ x ∧ x ≠ ge) (fun x c T fz hs hx _ => ⟨fz, by rw [setRow_other u11 ge x _ hs.2]; exact hx⟩) _ _ h1
              have HS12 : Hid (But wr.heap.size ge wr (u11.setRow ge #[.int .i64 k9, .string t9, .slice no9 nn9 nc9, .slice ao9 an9 ac9])) := HS11.out.trans ⟨rfl, rfl, rfl, by simp, fun x hx hne => setRow_other u11 ge x _ hne⟩
              clear hat9 hb9 hXs
              refine hK.out _ _ HS11.out (fun hHeld => ?_)
              clear hK K
              try simp only [List.getElem_toArray, List.getElem_cons_succ, List.getElem_cons_zero, Act.put, List.setIfInBounds_toArray, List.set_cons_zero, List.set_cons_succ]
              have z9 : (#[.int .i64 k9, .string t9, .slice no9 nn9 nc9, .slice ao9 an9 ac9] : Array Value).all (·.oneCell') = true := by simp [Value.oneCell']
              refine wpAnyH_ready (rs := [12]) (by kernel_rfl) (by simp) ?_
              refine (AllReadyH.cons rfl (fun K hK => ?_) AllReadyH.nil)
              refine wp_store_row 28 _ _ rfl ge #[.int .i64 k9, .string t9, .slice no9 nn9 nc9, .slice ao9 an9 ac9] (by go_simp) rfl 28 _ HR11.out info28 rfl z9 ?_
              refine hK.out _ _ HS12.out (fun hHeld => ?_)
              clear hK K
              try simp only [List.getElem_toArray, List.getElem_cons_succ, List.getElem_cons_zero, Act.put, List.setIfInBounds_toArray, List.set_cons_zero, List.set_cons_succ]
              refine wpAnyH_done (by kernel_rfl) ?_ _
              refine NoPanic.normal ?_
              clear hHeld
              have HFIN : Hid (RLet ps (.mk k t ns made) W1.heap.size ge wo (.int .i64 (q : Int)) (u11.setRow ge #[.int .i64 k9, .string t9, .slice no9 nn9 nc9, .slice ao9 an9 ac9])) := ⟨q, #[.int .i64 k9, .string t9, .slice no9 nn9 nc9, .slice ao9 an9 ac9], hqi, rfl, setRow_heap u11 _ _ _ 28 _ HR11.out, by rw [HLD.out]; exact HA11.out, HBX.out.trans (HS12.out.mono hwr2)⟩
              clear HC17 HBD HLD HS0 HSB HS11 HS12 HA11 HR11 hgm hgv
              generalize u11.setRow ge #[.int .i64 k9, .string t9, .slice no9 nn9 nc9, .slice ao9 an9 ac9] = w12 at HFIN ⊢
              go_wp2_with fail
              go_roundw
              case rel => exact HFIN.out
              case measure => simp [intOf]; omega
            · have q3 : decide (0 < (i : Int)) = false := decide_eq_false (by omega)
              obtain rfl : i = 0 := by omega
              have hatx := HATX.out
              rw [List.drop_zero] at hatx
              have hgr2 : wr.heap[gr]? = some (.cells Z4 28 (0, 0)) := by rw [HBX.out.block gr (Array.getElem?_eq_some_iff.1 HGR.out).1 hgrge]; exact HGR.out
              have HGR2 := Lib.hid hgr2
              have z8 : (#[.int .i64 k8, .string t8, .slice no8 nn8 nc8, .slice ao8 an8 ac8] : Array Value).all (·.oneCell') = true := by simp [Value.oneCell']
              have HFIN : Hid (RetRn (.mk k t ns a) n g w (.returned (.agg #[.int .i64 k8, .string t8, .slice no8 nn8 nc8, .slice ao8 an8 ac8])) (wr.setRow gr #[.int .i64 k8, .string t8, .slice no8 nn8 nc8, .slice ao8 an8 ac8])) :=
                rn_end HB1.out HXB.out HMI.out.but HBX.out hgrw hgr1 hge8 hgw HCNT.out (by rw [HLT.out]; exact hatx)
              clear hatx hgr2 HATX
              go_wp2_with (first | (refine wpList_load_row rfl 28 _ rfl ge rfl 28 #[.int .i64 k8, .string t8, .slice no8 nn8 nc8, .slice ao8 an8 ac8] (0, 0) _ HROW.out Tryd.underlying28 rfl info28 ?_) | (refine wpList_store_row rfl 28 _ _ rfl gr #[.int .i64 k8, .string t8, .slice no8 nn8 nc8, .slice ao8 an8 ac8] rfl rfl 28 Z4 HGR2.out info28 rfl z8 ?_))
              refine bodyPost_ret (results_cell_row rfl _ _ gr 28 #[.int .i64 k8, .string t8, .slice no8 nn8 nc8, .slice ao8 an8 ac8] (0, 0) _ rfl (setRow_heap wr _ _ _ 28 _ HGR2.out) Tryd.underlying28 rfl info28) rfl ?_
              exact HFIN.out
    · skip
      have HB9 : Hid (Below W1.heap.size W1 ((X.alloc (.cells #[] 9)).alloc (.cells Z4 28))) := HB4.out.alloc HB4.out.size _
      have hsz : (X.alloc (.cells #[] 9)).heap.size = X.heap.size + 1 := by simp
      have hz9 := alloc_at ((X.alloc (.cells #[] 9))) (.cells Z4 28)
      have hge8 := HB4.out.size
      rw [hsz] at hz9 hge8
      have HZ9 : Hid (((X.alloc (.cells #[] 9)).alloc (.cells Z4 28)).heap[(X.heap.size + 1)]? = some (.cells Z4 28 (0, 0))) := hz9
      clear hz9 hsz
      have HN9 := Lib.hid (HN4.out.below ((Below.refl _ _).alloc (Nat.le_refl _) (.cells Z4 28)))
      go_simp
      refine hK.out _ _ HB9.out (fun hHeld => ?_)
      clear hK K
      try simp only [List.getElem_toArray, List.getElem_cons_succ, List.getElem_cons_zero, Act.put, List.setIfInBounds_toArray, List.set_cons_zero, List.set_cons_succ]
      refine wpAnyH_ready (rs := [7]) (by kernel_rfl) (by simp) ?_
      refine (AllReadyH.cons rfl (fun K hK => ?_) AllReadyH.nil)
      have HM6 := Lib.hid (HM.out.keeps (Keeps.of_below HB9.out))
      refine wp_appNr (Operand.tmp 17) (Operand.tmp 19) rfl W1.heap.size (.slice (some ⟨X.heap.size, 0, none⟩) 0 0) [] (by go_simp) HN9.out _ ns rfl HM6.out (by simp; omega) HB9.out.size rfl ?_
      intro v' w6 hown6 hg6 hnx6
      obtain ⟨no', nc', rfl⟩ := own_form hown6
      rw [List.nil_append] at hown6
      have HB7 : Hid (Below W1.heap.size W1 w6) := HB9.out.trans ⟨hg6.os, hg6.tape, hg6.output, hg6.size, fun x hx => hg6.block x (Nat.lt_of_lt_of_le hx HB9.out.size) (fun e => by have := (OwnN.lt HN9.out e).1; omega)⟩
      have HN7 := Lib.hid hown6
      have HZ7 : Hid (w6.heap[(X.heap.size + 1)]? = some (.cells Z4 28 (0, 0))) := hg6.row HZ9.out (fun e => by have h5 := (OwnN.lt HN4.out e).2; have h6 : (X.alloc (.cells #[] 9)).heap.size = X.heap.size + 1 := (by simp); omega)
      clear hown6 hg6 hnx6
      refine hK.out _ _ HB7.out (fun hHeld => ?_)
      clear hK K
      try simp only [List.getElem_toArray, List.getElem_cons_succ, List.getElem_cons_zero, Act.put, List.setIfInBounds_toArray, List.set_cons_zero, List.set_cons_succ]
      refine wpAnyH_take (i := 8) (v := Value.agg #[.int .i64 k, .string t, .slice no' ns.length nc', .slice none 0 0]) rfl (by kernel_rfl) (by kernel_rfl) (by kernel_rfl) (fun _ _ _ h => h) (Or.inl ⟨rfl, fun w' hw' => ?_⟩) hHeld ?_
      · go_simp
      simp only [List.getElem_toArray, List.getElem_cons_succ, List.getElem_cons_zero, Act.put, List.setIfInBounds_toArray, List.set_cons_zero, List.set_cons_succ]
      obtain ⟨x1, x2, x3, hgeb, hap⟩ := nt_start (k := k) (t := t) HB7.out HZ7.out hge8 HN7.out
      have HXB := Lib.hid x1
      have HXN := Lib.hid x2
      have HE0 := Lib.hid x3
      have hone : (#[.int .i64 k, .string t, .slice no' ns.length nc', .slice none 0 0] : Array Value).all (·.oneCell') = true := by simp [Value.oneCell']
      clear x1 x2 x3
      refine wpAnyH_ready (rs := [10]) (by kernel_rfl) (by simp) ?_
      refine (AllReadyH.cons rfl (fun K hK => ?_) AllReadyH.nil)
      refine wp_store_row 28 _ _ rfl ((X.heap.size + 1)) #[.int .i64 k, .string t, .slice no' ns.length nc', .slice none 0 0] (by go_simp) rfl 28 Z4 HZ7.out info28 rfl hone ?_
      refine hK.out _ _ HXB.out (fun hHeld => ?_)
      clear hK K
      try simp only [List.getElem_toArray, List.getElem_cons_succ, List.getElem_cons_zero, Act.put, List.setIfInBounds_toArray, List.set_cons_zero, List.set_cons_succ]
      refine wpAnyH_done (by kernel_rfl) ?_ _
      refine NoPanic.normal ?_
      clear hHeld
      generalize w6.setRow ((X.heap.size + 1)) #[.int .i64 k, .string t, .slice no' ns.length nc', .slice none 0 0] = W0 at HXB HXN HE0 hgeb ⊢
      generalize (X.heap.size + 1) = ge at HE0 hgeb hge8 hap ⊢
      have HAP := Lib.hid hap
      clear hap hone
      have hneg : ge ≠ g := by omega
      have HN0 := Lib.hid (HN1.out.below HXB.out)
      have HG0 : Hid (W0.heap[gs]? = some (.cells #[.int .i64 k, .string t, .slice no ns.length nc, .slice ao a.length ac] 28 (0, 0))) := row_below HXB.out HRW.out
      go_wp2_with (refine wpList_load_row rfl 28 _ rfl gs rfl 28 #[.int .i64 k, .string t, .slice no ns.length nc, .slice ao a.length ac] (0, 0) _ HG0.out Tryd.underlying28 rfl info28 ?_)
      refine (HLZ.out _).mono ?_
      rintro r W2 ⟨rfl, hb2⟩
      replace HXB := Lib.hid (HXB.out.trans (hb2.mono HXB.out.size))
      replace HXN := Lib.hid (HXN.out.below hb2)
      replace HE0 : Hid (EB W2 ge k t (.slice no' ns.length nc') (.slice none 0 0)) := row_below hb2 HE0.out
      replace HN0 := Lib.hid (HN0.out.below hb2)
      replace hgeb : ge < W2.heap.size := Nat.lt_of_lt_of_le hgeb hb2.size
      clear hb2 HG0 HLZ
      have hW01 : W1.heap.size ≤ W2.heap.size := HXB.out.size
      have hgW2 : g < W2.heap.size := by omega
      go_wp2_with fail
      go_loopw [7, 8, 9] (fun nmv vv iv wr => RLoop W2 g ge k t (.slice no' ns.length nc') a n nmv vv iv wr) (fun _ _ iv _ => a.length - (intOf iv).toNat)
      case atStart => exact RLoop.zero HE0.out HN0.out
      case round =>
        obtain ⟨j, av, hj, rfl, M⟩ := hrel
        have HSN := Lib.hid (fun e => nrms_snoc k t e (a.take j) n 0)
        have hcn := HCN.out j
        have hml := nrms_len k t (a.take j) n 0
        rw [List.length_take, Nat.min_eq_left hj] at hml
        have hvl0 := vals_len k t (a.take j) n 0
        rw [List.length_take, Nat.min_eq_left hj] at hvl0
        obtain ⟨made, hmade⟩ : ∃ x, x = (Et.nrms k t n 0 (a.take j)).2.1 := ⟨_, rfl⟩
        obtain ⟨ps, hps⟩ : ∃ x, x = (Et.nrms k t n 0 (a.take j)).2.2 := ⟨_, rfl⟩
        obtain ⟨m, hm⟩ : ∃ x, x = (Et.nrms k t n 0 (a.take j)).1 := ⟨_, rfl⟩
        rw [← hmade] at M hml
        rw [← hps] at M hvl0
        rw [← hm] at M hcn
        obtain ⟨nms, hnms⟩ : ∃ x, x = ps.map (·.1) := ⟨_, rfl⟩
        obtain ⟨vals, hvals⟩ : ∃ x, x = ps.map (·.2) := ⟨_, rfl⟩
        rw [← hnms, ← hvals] at M
        have hnl1 : nms.length = ps.length := by rw [hnms, List.length_map]
        have hvl1 : vals.length = ps.length := by rw [hvals, List.length_map]
        obtain ⟨ao5, ac5, hav⟩ := M.own.form
        obtain ⟨vo, vc, hvv⟩ := M.val.form
        obtain ⟨mo, mc, hmv⟩ := own_form M.nam
        obtain ⟨np, hnp⟩ : ∃ np, made.length = np := ⟨_, rfl⟩
        obtain ⟨nvv, hnvv⟩ : ∃ np, vals.length = np := ⟨_, rfl⟩
        obtain ⟨nm, hnm⟩ : ∃ np, nms.length = np := ⟨_, rfl⟩
        rw [hnp] at hav hml
        rw [hnvv] at hvv hvl1
        rw [hnm] at hmv hnl1
        subst hav hvv hmv
        have hs0 := M.but.size
        have hB1 : But W1.heap.size g W1 wr := (But.of HXB.out : But W1.heap.size g W1 W2).trans (M.but.to hW01 hge8)
        have HB1r := Lib.hid hB1
        have HA := Lib.hid (AAt.keeps HL.out (hB1.keeps fun x hx => hx.2))
        have HGS : Hid (EB wr gs k t (.slice no ns.length nc) (.slice ao a.length ac)) := by
          show EB _ _ _ _ _ _
          unfold EB
          rw [hB1.block gs hgs1 hggs]; exact HRW.out
        have HMI := Lib.hid M
        have HNPL := Lib.hid hnp
        have HNVL := Lib.hid hnvv
        have HNML := Lib.hid hnm
        have HMD := Lib.hid hmade
        have HPS := Lib.hid hps
        have HMM := Lib.hid hm
        have HNS := Lib.hid hnms
        have HVS := Lib.hid hvals
        have hml2 : np + 1 ≤ 1000000000 := by omega
        have hnm5 : nm ≤ 100000 := by omega
        have hnms5 : nms.length ≤ 100000 := by omega
        have hnvv5 : nvv ≤ 100000 := by omega
        have hnmv : nm = nvv := by omega
        have HNV := Lib.hid hnmv
        have hpl5 := hnl1
        have HPL := Lib.hid hpl5
        clear M hmade hps hm hnms hvals hnp hnvv hnm hB1 hml hvl0 hnl1 hvl1 hnmv hpl5
        obtain ⟨-, -, -, cs3⟩ := EB.cell _ _ _ _ _ _ HGS.out
        by_cases hlt : j < a.length
        · have q1 : decide ((j : Int) < (a.length : Int)) = true := decide_eq_true (by omega)
          obtain ⟨g4, o4, k', t', mv', lv', rfl, -, -, hati, e0, e1, e2, e3, o1', o2'⟩ := HA.out.get j hlt
          have htk := HTK.out j hlt
          have HC := Lib.hid (IH.out a[j] (List.getElem_mem hlt) _ _ _ g m hati HMI.out.cn (by omega))
          clear hati
          go_wp2_with fail
          refine HC.out.mono ?_
          rintro r w7 ⟨cs7, rfl, hat7, hnk7, hbut7⟩
          obtain ⟨k5, t5, no5, nn5, nc5, ao6, an6, ac6, rfl⟩ := EAt_sl hat7
          have z5 : (#[.int .i64 k5, .string t5, .slice no5 nn5 nc5, .slice ao6 an6 ac6] : Array Value).all (·.oneCell') = true := by simp [Value.oneCell']
          obtain ⟨x5, hx5⟩ : ∃ x5, x5 = (a[j].nrm m).2 := ⟨_, rfl⟩
          obtain ⟨m5, hm5⟩ : ∃ m5, m5 = (a[j].nrm m).1 := ⟨_, rfl⟩
          rw [← hx5] at hat7
          rw [← hm5] at hnk7
          have hmc : m5 = m + a[j].thick := by rw [hm5]; exact (nrm_f a[j] m).cnt
          have HX5 := Lib.hid hx5
          have HM5 := Lib.hid hm5
          have HMID := Lib.hid (RMid.of HMI.out hgW2 hgeb hneg hbut7 hnk7 hat7)
          have hm100 : m5 ≤ 100000 := by omega
          clear hat7 hnk7 hbut7 hx5 hm5 hmc HC htk e0 e1 e2 e3 cs3
          go_upto_region 9 with (refine wpList_store_row rfl 28 _ _ rfl w7.heap.size #[.int .i64 k5, .string t5, .slice no5 nn5 nc5, .slice ao6 an6 ac6] rfl rfl 28 Z4 (alloc_at _ _) info28 rfl z5 ?_)
          try simp only [Act.put]
          have EE : (w7.alloc (.cells #[.int .i64 0, .string ⟨#[]⟩, .slice none 0 0, .slice none 0 0] 28)).setRow w7.heap.size #[.int .i64 k5, .string t5, .slice no5 nn5 nc5, .slice ao6 an6 ac6] = w7.alloc (.cells #[.int .i64 k5, .string t5, .slice no5 nn5 nc5, .slice ao6 an6 ac6] 28) := setRow_new _ _ _ _
          try rw [EE]
          clear EE z5
          generalize w7.alloc (.cells #[.int .i64 k5, .string t5, .slice no5 nn5 nc5, .slice ao6 an6 ac6] 28) = w8 at HMID ⊢
          generalize w7.heap.size = p9 at HMID ⊢
          have HSJ := Lib.hid (HLS.out j)
          have hr8 : w8.heap[p9]? = some (.cells #[.int .i64 k5, .string t5, .slice no5 nn5 nc5, .slice ao6 an6 ac6] 28 (0, 0)) := HMID.out.row
          have HR8 := Lib.hid hr8
          have HNL := Lib.hid (show Calls Tryd.prog 37 #[.agg #[.int .i64 k5, .string t5, .slice no5 nn5 nc5, .slice ao6 an6 ac6]] w8 (RetBool x5.atom w8) from atom_tells x5 _ _ w8 HMID.out.part)
          have HREL : Hid (∀ wz av' vv' nm' q, (Et.nrms k t n 0 (a.take (j + 1))) = q → RInv W2 g ge k t (.slice no' ns.length nc') wz av' vv' nm' q.2.1 (q.2.2.map (·.2)) (q.2.2.map (·.1)) q.1 → RLoop W2 g ge k t (.slice no' ns.length nc') a n nm' vv' (.int .i64 ((j : Int) + 1)) wz) := by
            show ∀ wz av' vv' nm' q, _ → _
            intro wz av' vv' nm' q hq h
            subst hq
            exact ⟨j + 1, av', by omega, by go_num, h⟩
          clear hr8
          by_cases hz0 : 0 ≤ z
          · have p0 : decide (0 ≤ z) = true := decide_eq_true hz0
            by_cases hzj : z ≤ (j : Int)
            · have p1 : decide (z ≤ (j : Int)) = true := decide_eq_true hzj
              have hs2 : slot k t (0 + (a.take j).length) = true := by rw [List.length_take, Nat.min_eq_left hj, Nat.zero_add, HSJ.out, p0, p1]; rfl
              obtain ⟨b, hb⟩ : ∃ b, x5.atom = b := ⟨_, rfl⟩
              rw [hb] at HNL
              go_wp2_with (first | (refine wpList_load_row rfl 28 _ rfl p9 rfl 28 #[.int .i64 k5, .string t5, .slice no5 nn5 nc5, .slice ao6 an6 ac6] (0, 0) _ HR8.out Tryd.underlying28 rfl info28 ?_) | (refine wpList_load_wanted (by rfl) 28 _ rfl p9 rfl 28 #[.int .i64 k5, .string t5, .slice no5 nn5 nc5, .slice ao6 an6 ac6] (0, 0) _ HR8.out Tryd.underlying28 rfl info28 ?_))
              refine HNL.out.mono ?_
              rintro r u8 ⟨rfl, hb8⟩
              replace HMID := Lib.hid (HMID.out.below hgW2 hneg hb8)
              clear hb8 HNL HR8
              cases b
              · have hsn := HSN.out a[j]
                rw [← take_snoc_et a j hlt, ← HMM.out, ← HMD.out, ← HPS.out, ← HX5.out, ← HM5.out, hs2, hb] at hsn
                have HSN2 : Hid (Et.nrms k t n 0 (a.take (j + 1)) = (m5 + 1, made ++ [evar (pn (m5 + 1))], ps ++ [(pn (m5 + 1), x5)])) := hsn
                clear hsn HSN
                clear hb hs2
                have HNX := Lib.hid (rnext_any g m5 u8 HMID.out.cn hm100)
                go_wp2_with fail
                refine HNX.out.mono ?_
                rintro r u9 ⟨rfl, hnk9, hbut9⟩
                have HMID2 := Lib.hid (HMID.out.but2 hgW2 hneg hbut9 hnk9)
                obtain ⟨pnm, hpn⟩ : ∃ x, x = pn (m5 + 1) := ⟨_, rfl⟩
                rw [← hpn] at HSN2 ⊢
                clear hnk9 hbut9 HNX HMID hpn
                go_upto_region 11 with fail
                have HM0 := Lib.hid (HMID2.out.below hgW2 hneg (w' := u9.drew) ((Below.refl _ _).drew))
                have HS0 : Hid (EB u9.drew p9 k5 t5 (.slice no5 nn5 nc5) (.slice ao6 an6 ac6)) := HM0.out.row
                clear HMID2
                refine wp_region_noPanic ?_
                refine wp_region_held_drew (S := fun w' => EB w' p9 k5 t5 (.slice no5 nn5 nc5) (.slice ao6 an6 ac6)) (by kernel_rfl) HS0.out (fun hHeld => ?_)
                generalize u9.drew = X9 at HS0 HM0 hHeld ⊢
                refine wpAnyH_take (i := 0) (v := Value.slice mo nm mc) rfl (by kernel_rfl) (by kernel_rfl) (by kernel_rfl) (fun _ _ _ h => h) (Or.inl ⟨rfl, fun w' hw' => ?_⟩) hHeld ?_
                · go_simp
                simp only [List.getElem_toArray, List.getElem_cons_succ, List.getElem_cons_zero, Act.put, List.setIfInBounds_toArray, List.set_cons_zero, List.set_cons_succ]
                refine wpAnyH_take (i := 1) (v := Value.string pnm) rfl (by kernel_rfl) (by kernel_rfl) (by kernel_rfl) (fun _ _ _ h => h) (Or.inl ⟨rfl, fun w' hw' => ?_⟩) hHeld ?_
                · go_simp
                simp only [List.getElem_toArray, List.getElem_cons_succ, List.getElem_cons_zero, Act.put, List.setIfInBounds_toArray, List.set_cons_zero, List.set_cons_succ]
                refine wpAnyH_take (i := 4) (v := Value.slice vo nvv vc) rfl (by kernel_rfl) (by kernel_rfl) (by kernel_rfl) (fun _ _ _ h => h) (Or.inl ⟨rfl, fun w' hw' => ?_⟩) hHeld ?_
                · go_simp
                simp only [List.getElem_toArray, List.getElem_cons_succ, List.getElem_cons_zero, Act.put, List.setIfInBounds_toArray, List.set_cons_zero, List.set_cons_succ]
                refine wpAnyH_take (i := 5) (v := Value.agg #[.int .i64 k5, .string t5, .slice no5 nn5 nc5, .slice ao6 an6 ac6]) rfl (by kernel_rfl) (by kernel_rfl) (by kernel_rfl) (fun _ _ _ h => h) (Or.inl ⟨rfl, fun w' hw' => ?_⟩) hHeld ?_
                · obtain ⟨d0, d1, d2, d3⟩ := EB.cell _ _ _ _ _ _ hw'; go_simp
                simp only [List.getElem_toArray, List.getElem_cons_succ, List.getElem_cons_zero, Act.put, List.setIfInBounds_toArray, List.set_cons_zero, List.set_cons_succ]
                refine wpAnyH_ready (rs := [2, 6]) (by kernel_rfl) (by simp) ?_
                refine (AllReadyH.cons rfl (fun K hK => ?_) (AllReadyH.cons rfl (fun K hK => ?_) AllReadyH.nil))
                · skip
                  have HM2 := Lib.hid (HM0.out.below hgW2 hneg (w' := X9.alloc (.cells #[.string pnm] 9)) ((Below.refl _ _).alloc (Nat.le_refl _) _))
                  have HS2 : Hid (EB (X9.alloc (.cells #[.string pnm] 9)) p9 k5 t5 (.slice no5 nn5 nc5) (.slice ao6 an6 ac6)) := HM2.out.row
                  have HNT := Lib.hid (one_name X9 pnm)
                  go_simp
                  refine hK.out _ _ HS2.out (fun hHeld => ?_)
                  clear hK K
                  try simp only [List.getElem_toArray, List.getElem_cons_succ, List.getElem_cons_zero, Act.put, List.setIfInBounds_toArray, List.set_cons_zero, List.set_cons_succ]
                  refine wpAnyH_ready (rs := [3, 6]) (by kernel_rfl) (by simp) ?_
                  refine (AllReadyH.cons rfl (fun K hK => ?_) (AllReadyH.cons rfl (fun K hK => ?_) AllReadyH.nil))
                  · skip
                    refine wp_appNr (Operand.tmp 52) (Operand.tmp 54) rfl W2.heap.size (.slice mo nm mc) nms rfl HM2.out.nam (.slice (some ⟨X9.heap.size, 0, none⟩) 1 1) [pnm] (by go_simp) HNT.out (by simp; omega) HM2.out.but.size rfl ?_
                    intro nm' u3 hn3 hg3 hx3
                    obtain ⟨mo', mc', hvn⟩ := own_form hn3
                    rw [List.length_append, HNML.out] at hvn
                    subst hvn
                    have HM3 := Lib.hid (HM2.out.name hgW2 hgeb pnm hn3 hg3 hx3)
                    have HS3 : Hid (EB u3 p9 k5 t5 (.slice no5 nn5 nc5) (.slice ao6 an6 ac6)) := HM3.out.row
                    clear hn3 hg3 hx3
                    refine hK.out _ _ HS3.out (fun hHeld => ?_)
                    clear hK K
                    try simp only [List.getElem_toArray, List.getElem_cons_succ, List.getElem_cons_zero, Act.put, List.setIfInBounds_toArray, List.set_cons_zero, List.set_cons_succ]
                    refine wpAnyH_ready (rs := [6]) (by kernel_rfl) (by simp) ?_
                    refine (AllReadyH.cons rfl (fun K hK => ?_) AllReadyH.nil)
                    skip
                    have HM6 := Lib.hid (HM3.out.below hgW2 hneg (w' := u3.alloc (.cells #[.int .i64 k5, .string t5, .slice no5 nn5 nc5, .slice ao6 an6 ac6] 28)) ((Below.refl _ _).alloc (Nat.le_refl _) _))
                    have HS6 : Hid (EB (u3.alloc (.cells #[.int .i64 k5, .string t5, .slice no5 nn5 nc5, .slice ao6 an6 ac6] 28)) p9 k5 t5 (.slice no5 nn5 nc5) (.slice ao6 an6 ac6)) := HM6.out.row
                    have HR6 : Hid ((u3.alloc (.cells #[.int .i64 k5, .string t5, .slice no5 nn5 nc5, .slice ao6 an6 ac6] 28)).heap[u3.heap.size]? = some (.cells #[.int .i64 k5, .string t5, .slice no5 nn5 nc5, .slice ao6 an6 ac6] 28 (0, 0))) := alloc_at _ _
                    go_simp
                    refine hK.out _ _ HS6.out (fun hHeld => ?_)
                    clear hK K
                    try simp only [List.getElem_toArray, List.getElem_cons_succ, List.getElem_cons_zero, Act.put, List.setIfInBounds_toArray, List.set_cons_zero, List.set_cons_succ]
                    refine wpAnyH_ready (rs := [7]) (by kernel_rfl) (by simp) ?_
                    refine (AllReadyH.cons rfl (fun K hK => ?_) AllReadyH.nil)
                    obtain ⟨xsv, hov, hBv, hpush⟩ := HM6.out.value hgW2 hgeb hneg rfl
                    rw [HNVL.out] at hov hpush
                    refine wp_appT (Operand.tmp 56) (Operand.tmp 58) rfl W2.heap.size (.slice vo nvv vc) nvv xsv rfl hov (u3.heap.size) 1 (by go_simp) (#[.int .i64 k5, .string t5, .slice no5 nn5 nc5, .slice ao6 an6 ac6] : Array Value).toList rfl (fun i u hu => by rw [Lib.cell_of_heap HR6.out]; simpa using hu) (by intro u hu; simp at hu; rcases hu with rfl | rfl | rfl | rfl <;> rfl) (by omega) hBv ?_
                    intro vv' u7 hn7 hg7 hv7
                    obtain ⟨vo', vc', rfl⟩ := own_form hn7
                    have HM7 := Lib.hid (hpush _ _ hn7 hg7 hv7)
                    have HS7 : Hid (EB u7 p9 k5 t5 (.slice no5 nn5 nc5) (.slice ao6 an6 ac6)) := HM7.out.row
                    clear hn7 hg7 hv7 hov hpush
                    refine hK.out _ _ HS7.out (fun hHeld => ?_)
                    clear hK K
                    try simp only [List.getElem_toArray, List.getElem_cons_succ, List.getElem_cons_zero, Act.put, List.setIfInBounds_toArray, List.set_cons_zero, List.set_cons_succ]
                    refine wpAnyH_take (i := 8) (v := Value.slice mo' (nm + 1) mc') rfl (by kernel_rfl) (by kernel_rfl) (by kernel_rfl) (fun _ _ _ h => h) (Or.inl ⟨rfl, fun w' hw' => ?_⟩) hHeld ?_
                    · go_simp
                    simp only [List.getElem_toArray, List.getElem_cons_succ, List.getElem_cons_zero, Act.put, List.setIfInBounds_toArray, List.set_cons_zero, List.set_cons_succ]
                    refine wpAnyH_take (i := 9) (v := Value.slice vo' (nvv + 1) vc') rfl (by kernel_rfl) (by kernel_rfl) (by kernel_rfl) (fun _ _ _ h => h) (Or.inl ⟨rfl, fun w' hw' => ?_⟩) hHeld ?_
                    · go_simp
                    simp only [List.getElem_toArray, List.getElem_cons_succ, List.getElem_cons_zero, Act.put, List.setIfInBounds_toArray, List.set_cons_zero, List.set_cons_succ]
                    refine wpAnyH_done (by kernel_rfl) ?_ _
                    refine NoPanic.normal ?_
                    clear hHeld

                    go_wp2_with fail
                    refine (var_any pnm u7).mono ?_
                    rintro r u12 ⟨rfl, hb12⟩
                    have HM12 := Lib.hid (HM7.out.below hgW2 hneg hb12)
                    have hr12 : u12.heap[p9]? = some (.cells #[.int .i64 k5, .string t5, .slice no5 nn5 nc5, .slice ao6 an6 ac6] 28 (0, 0)) := HM12.out.row
                    have HR12 := Lib.hid hr12
                    have zv : (#[.int .i64 5, .string pnm, .slice none 0 0, .slice none 0 0] : Array Value).all (·.oneCell') = true := by simp [Value.oneCell']
                    have HMID := Lib.hid (HM12.out.setP hgW2 hgeb pnm)
                    have hmp1 : nms ++ [pnm] = (ps ++ [(pnm, x5)]).map (·.1) := by rw [List.map_append, ← HNS.out]; rfl
                    have hmp2 : vals ++ [x5] = (ps ++ [(pnm, x5)]).map (·.2) := by rw [List.map_append, ← HVS.out]; rfl
                    rw [hmp1, hmp2] at HMID
                    clear hb12 hr12 HM12 hmp1 hmp2
                    go_upto_region 13 with (refine wpList_store_row rfl 28 _ _ rfl p9 #[.int .i64 5, .string pnm, .slice none 0 0, .slice none 0 0] rfl rfl 28 _ HR12.out info28 rfl zv ?_)
                    try simp only [Act.put]
                    generalize u12.setRow p9 #[.int .i64 5, .string pnm, .slice none 0 0, .slice none 0 0] = w12 at HMID ⊢
                    clear HR12 zv
                    obtain ⟨xs, hx8, hB8, c3, hc9⟩ := HMID.out.app hgW2 hgeb hneg rfl
                    rw [HNPL.out] at hx8 hc9
                    have HX8 := Lib.hid hx8
                    have HC9 := Lib.hid hc9
                    have hr8 : w12.heap[p9]? = some (.cells #[.int .i64 5, .string pnm, .slice none 0 0, .slice none 0 0] 28 (0, 0)) := HMID.out.row
                    obtain ⟨f0, f1, f2, f3⟩ := EB.cell _ _ _ _ _ _ (show EB w12 p9 _ _ _ _ from hr8)
                    have c3' : w12.cell? ⟨ge, 3, none⟩ = some (.slice ao5 np ac5) := (EB.cell _ _ _ _ _ _ HMID.out.eb).2.2.2
                    clear hx8 hc9 hr8 HMID
                    go_wp2_with (at_builtin; refine wpList_app rfl (Operand.tmp 63) (Operand.tmp 65) rfl W2.heap.size (.slice ao5 np ac5) np xs rfl HX8.out w12.heap.size 1 rfl (#[.int .i64 5, .string pnm, .slice none 0 0, .slice none 0 0] : Array Value).toList rfl (row_cellsT _ 28 _) (by intro u hu; simp at hu; rcases hu with rfl | rfl | rfl | rfl <;> rfl) hml2 hB8 ?_; intro av' w9 hown9 hg9 hv9; obtain ⟨ao', ac', rfl⟩ := own_form hown9; obtain ⟨c9, f9, hrest9⟩ := HC9.out _ _ hown9 hg9 hv9; have HRE := Lib.hid hrest9; clear hrest9 hown9 hg9 hv9)
                    go_roundw
                    case rel => exact HREL.out _ _ _ _ _ HSN2.out HRE.out
                    case measure => simp [intOf]; omega
                  · skip
                    have hlt6 : ∀ x, (Value.slice mo nm mc).ownBlock = some x → x < (X9.alloc (.cells #[.string pnm] 9)).heap.size := fun x hx => (HM2.out.nam.lt hx).2
                    have HM6 := Lib.hid (HM2.out.below hgW2 hneg (w' := (X9.alloc (.cells #[.string pnm] 9)).alloc (.cells #[.int .i64 k5, .string t5, .slice no5 nn5 nc5, .slice ao6 an6 ac6] 28)) ((Below.refl _ _).alloc (Nat.le_refl _) _))
                    have HS6 : Hid (EB ((X9.alloc (.cells #[.string pnm] 9)).alloc (.cells #[.int .i64 k5, .string t5, .slice no5 nn5 nc5, .slice ao6 an6 ac6] 28)) p9 k5 t5 (.slice no5 nn5 nc5) (.slice ao6 an6 ac6)) := HM6.out.row
                    have HR6 : Hid (((X9.alloc (.cells #[.string pnm] 9)).alloc (.cells #[.int .i64 k5, .string t5, .slice no5 nn5 nc5, .slice ao6 an6 ac6] 28)).heap[(X9.alloc (.cells #[.string pnm] 9)).heap.size]? = some (.cells #[.int .i64 k5, .string t5, .slice no5 nn5 nc5, .slice ao6 an6 ac6] 28 (0, 0))) := alloc_at _ _
                    have HNT6 := Lib.hid (HNT.out.keeps (Keeps.of_below (w' := (X9.alloc (.cells #[.string pnm] 9)).alloc (.cells #[.int .i64 k5, .string t5, .slice no5 nn5 nc5, .slice ao6 an6 ac6] 28)) ((Below.refl _ _).alloc (Nat.le_refl _) _)))
                    go_simp
                    refine hK.out _ _ HS6.out (fun hHeld => ?_)
                    clear hK K
                    try simp only [List.getElem_toArray, List.getElem_cons_succ, List.getElem_cons_zero, Act.put, List.setIfInBounds_toArray, List.set_cons_zero, List.set_cons_succ]
                    refine wpAnyH_ready (rs := [3]) (by kernel_rfl) (by simp) ?_
                    refine (AllReadyH.cons rfl (fun K hK => ?_) AllReadyH.nil)
                    refine wp_appNr (Operand.tmp 52) (Operand.tmp 54) rfl W2.heap.size (.slice mo nm mc) nms rfl HM6.out.nam (.slice (some ⟨X9.heap.size, 0, none⟩) 1 1) [pnm] (by go_simp) HNT6.out (by simp; omega) HM6.out.but.size rfl ?_
                    intro nm' u3 hn3 hg3 hx3
                    obtain ⟨mo', mc', hvn⟩ := own_form hn3
                    rw [List.length_append, HNML.out] at hvn
                    subst hvn
                    have HM3 := Lib.hid (HM6.out.name hgW2 hgeb pnm hn3 hg3 hx3)
                    have HS3 : Hid (EB u3 p9 k5 t5 (.slice no5 nn5 nc5) (.slice ao6 an6 ac6)) := HM3.out.row
                    have HR3 : Hid (u3.heap[(X9.alloc (.cells #[.string pnm] 9)).heap.size]? = some (.cells #[.int .i64 k5, .string t5, .slice no5 nn5 nc5, .slice ao6 an6 ac6] 28 (0, 0))) := hg3.row HR6.out (fun e => by have := hlt6 _ e; omega)
                    clear hn3 hg3 hx3
                    refine hK.out _ _ HS3.out (fun hHeld => ?_)
                    clear hK K
                    try simp only [List.getElem_toArray, List.getElem_cons_succ, List.getElem_cons_zero, Act.put, List.setIfInBounds_toArray, List.set_cons_zero, List.set_cons_succ]
                    refine wpAnyH_ready (rs := [7]) (by kernel_rfl) (by simp) ?_
                    refine (AllReadyH.cons rfl (fun K hK => ?_) AllReadyH.nil)
                    obtain ⟨xsv, hov, hBv, hpush⟩ := HM3.out.value hgW2 hgeb hneg rfl
                    rw [HNVL.out] at hov hpush
                    refine wp_appT (Operand.tmp 56) (Operand.tmp 58) rfl W2.heap.size (.slice vo nvv vc) nvv xsv rfl hov ((X9.alloc (.cells #[.string pnm] 9)).heap.size) 1 (by go_simp) (#[.int .i64 k5, .string t5, .slice no5 nn5 nc5, .slice ao6 an6 ac6] : Array Value).toList rfl (fun i u hu => by rw [Lib.cell_of_heap HR3.out]; simpa using hu) (by intro u hu; simp at hu; rcases hu with rfl | rfl | rfl | rfl <;> rfl) (by omega) hBv ?_
                    intro vv' u7 hn7 hg7 hv7
                    obtain ⟨vo', vc', rfl⟩ := own_form hn7
                    have HM7 := Lib.hid (hpush _ _ hn7 hg7 hv7)
                    have HS7 : Hid (EB u7 p9 k5 t5 (.slice no5 nn5 nc5) (.slice ao6 an6 ac6)) := HM7.out.row
                    clear hn7 hg7 hv7 hov hpush
                    refine hK.out _ _ HS7.out (fun hHeld => ?_)
                    clear hK K
                    try simp only [List.getElem_toArray, List.getElem_cons_succ, List.getElem_cons_zero, Act.put, List.setIfInBounds_toArray, List.set_cons_zero, List.set_cons_succ]
                    refine wpAnyH_take (i := 8) (v := Value.slice mo' (nm + 1) mc') rfl (by kernel_rfl) (by kernel_rfl) (by kernel_rfl) (fun _ _ _ h => h) (Or.inl ⟨rfl, fun w' hw' => ?_⟩) hHeld ?_
                    · go_simp
                    simp only [List.getElem_toArray, List.getElem_cons_succ, List.getElem_cons_zero, Act.put, List.setIfInBounds_toArray, List.set_cons_zero, List.set_cons_succ]
                    refine wpAnyH_take (i := 9) (v := Value.slice vo' (nvv + 1) vc') rfl (by kernel_rfl) (by kernel_rfl) (by kernel_rfl) (fun _ _ _ h => h) (Or.inl ⟨rfl, fun w' hw' => ?_⟩) hHeld ?_
                    · go_simp
                    simp only [List.getElem_toArray, List.getElem_cons_succ, List.getElem_cons_zero, Act.put, List.setIfInBounds_toArray, List.set_cons_zero, List.set_cons_succ]
                    refine wpAnyH_done (by kernel_rfl) ?_ _
                    refine NoPanic.normal ?_
                    clear hHeld

                    go_wp2_with fail
                    refine (var_any pnm u7).mono ?_
                    rintro r u12 ⟨rfl, hb12⟩
                    have HM12 := Lib.hid (HM7.out.below hgW2 hneg hb12)
                    have hr12 : u12.heap[p9]? = some (.cells #[.int .i64 k5, .string t5, .slice no5 nn5 nc5, .slice ao6 an6 ac6] 28 (0, 0)) := HM12.out.row
                    have HR12 := Lib.hid hr12
                    have zv : (#[.int .i64 5, .string pnm, .slice none 0 0, .slice none 0 0] : Array Value).all (·.oneCell') = true := by simp [Value.oneCell']
                    have HMID := Lib.hid (HM12.out.setP hgW2 hgeb pnm)
                    have hmp1 : nms ++ [pnm] = (ps ++ [(pnm, x5)]).map (·.1) := by rw [List.map_append, ← HNS.out]; rfl
                    have hmp2 : vals ++ [x5] = (ps ++ [(pnm, x5)]).map (·.2) := by rw [List.map_append, ← HVS.out]; rfl
                    rw [hmp1, hmp2] at HMID
                    clear hb12 hr12 HM12 hmp1 hmp2
                    go_upto_region 13 with (refine wpList_store_row rfl 28 _ _ rfl p9 #[.int .i64 5, .string pnm, .slice none 0 0, .slice none 0 0] rfl rfl 28 _ HR12.out info28 rfl zv ?_)
                    try simp only [Act.put]
                    generalize u12.setRow p9 #[.int .i64 5, .string pnm, .slice none 0 0, .slice none 0 0] = w12 at HMID ⊢
                    clear HR12 zv
                    obtain ⟨xs, hx8, hB8, c3, hc9⟩ := HMID.out.app hgW2 hgeb hneg rfl
                    rw [HNPL.out] at hx8 hc9
                    have HX8 := Lib.hid hx8
                    have HC9 := Lib.hid hc9
                    have hr8 : w12.heap[p9]? = some (.cells #[.int .i64 5, .string pnm, .slice none 0 0, .slice none 0 0] 28 (0, 0)) := HMID.out.row
                    obtain ⟨f0, f1, f2, f3⟩ := EB.cell _ _ _ _ _ _ (show EB w12 p9 _ _ _ _ from hr8)
                    have c3' : w12.cell? ⟨ge, 3, none⟩ = some (.slice ao5 np ac5) := (EB.cell _ _ _ _ _ _ HMID.out.eb).2.2.2
                    clear hx8 hc9 hr8 HMID
                    go_wp2_with (at_builtin; refine wpList_app rfl (Operand.tmp 63) (Operand.tmp 65) rfl W2.heap.size (.slice ao5 np ac5) np xs rfl HX8.out w12.heap.size 1 rfl (#[.int .i64 5, .string pnm, .slice none 0 0, .slice none 0 0] : Array Value).toList rfl (row_cellsT _ 28 _) (by intro u hu; simp at hu; rcases hu with rfl | rfl | rfl | rfl <;> rfl) hml2 hB8 ?_; intro av' w9 hown9 hg9 hv9; obtain ⟨ao', ac', rfl⟩ := own_form hown9; obtain ⟨c9, f9, hrest9⟩ := HC9.out _ _ hown9 hg9 hv9; have HRE := Lib.hid hrest9; clear hrest9 hown9 hg9 hv9)
                    go_roundw
                    case rel => exact HREL.out _ _ _ _ _ HSN2.out HRE.out
                    case measure => simp [intOf]; omega
                · skip
                  have hlt6 : ∀ x, (Value.slice mo nm mc).ownBlock = some x → x < X9.heap.size := fun x hx => (HM0.out.nam.lt hx).2
                  have HM6 := Lib.hid (HM0.out.below hgW2 hneg (w' := X9.alloc (.cells #[.int .i64 k5, .string t5, .slice no5 nn5 nc5, .slice ao6 an6 ac6] 28)) ((Below.refl _ _).alloc (Nat.le_refl _) _))
                  have HS6 : Hid (EB (X9.alloc (.cells #[.int .i64 k5, .string t5, .slice no5 nn5 nc5, .slice ao6 an6 ac6] 28)) p9 k5 t5 (.slice no5 nn5 nc5) (.slice ao6 an6 ac6)) := HM6.out.row
                  have HR6 : Hid ((X9.alloc (.cells #[.int .i64 k5, .string t5, .slice no5 nn5 nc5, .slice ao6 an6 ac6] 28)).heap[X9.heap.size]? = some (.cells #[.int .i64 k5, .string t5, .slice no5 nn5 nc5, .slice ao6 an6 ac6] 28 (0, 0))) := alloc_at _ _
                  go_simp
                  refine hK.out _ _ HS6.out (fun hHeld => ?_)
                  clear hK K
                  try simp only [List.getElem_toArray, List.getElem_cons_succ, List.getElem_cons_zero, Act.put, List.setIfInBounds_toArray, List.set_cons_zero, List.set_cons_succ]
                  refine wpAnyH_ready (rs := [2]) (by kernel_rfl) (by simp) ?_
                  refine (AllReadyH.cons rfl (fun K hK => ?_) AllReadyH.nil)
                  have HM2 := Lib.hid (HM6.out.below hgW2 hneg (w' := (X9.alloc (.cells #[.int .i64 k5, .string t5, .slice no5 nn5 nc5, .slice ao6 an6 ac6] 28)).alloc (.cells #[.string pnm] 9)) ((Below.refl _ _).alloc (Nat.le_refl _) _))
                  have HS2 : Hid (EB ((X9.alloc (.cells #[.int .i64 k5, .string t5, .slice no5 nn5 nc5, .slice ao6 an6 ac6] 28)).alloc (.cells #[.string pnm] 9)) p9 k5 t5 (.slice no5 nn5 nc5) (.slice ao6 an6 ac6)) := HM2.out.row
                  have HNT := Lib.hid (one_name (X9.alloc (.cells #[.int .i64 k5, .string t5, .slice no5 nn5 nc5, .slice ao6 an6 ac6] 28)) pnm)
                  have HR2 : Hid (((X9.alloc (.cells #[.int .i64 k5, .string t5, .slice no5 nn5 nc5, .slice ao6 an6 ac6] 28)).alloc (.cells #[.string pnm] 9)).heap[X9.heap.size]? = some (.cells #[.int .i64 k5, .string t5, .slice no5 nn5 nc5, .slice ao6 an6 ac6] 28 (0, 0))) := row_below ((Below.refl _ _).alloc (Nat.le_refl _) _) HR6.out
                  go_simp
                  refine hK.out _ _ HS2.out (fun hHeld => ?_)
                  clear hK K
                  try simp only [List.getElem_toArray, List.getElem_cons_succ, List.getElem_cons_zero, Act.put, List.setIfInBounds_toArray, List.set_cons_zero, List.set_cons_succ]
                  refine wpAnyH_ready (rs := [3]) (by kernel_rfl) (by simp) ?_
                  refine (AllReadyH.cons rfl (fun K hK => ?_) AllReadyH.nil)
                  refine wp_appNr (Operand.tmp 52) (Operand.tmp 54) rfl W2.heap.size (.slice mo nm mc) nms rfl HM2.out.nam (.slice (some ⟨(X9.alloc (.cells #[.int .i64 k5, .string t5, .slice no5 nn5 nc5, .slice ao6 an6 ac6] 28)).heap.size, 0, none⟩) 1 1) [pnm] (by go_simp) HNT.out (by simp; omega) HM2.out.but.size rfl ?_
                  intro nm' u3 hn3 hg3 hx3
                  obtain ⟨mo', mc', hvn⟩ := own_form hn3
                  rw [List.length_append, HNML.out] at hvn
                  subst hvn
                  have HM3 := Lib.hid (HM2.out.name hgW2 hgeb pnm hn3 hg3 hx3)
                  have HS3 : Hid (EB u3 p9 k5 t5 (.slice no5 nn5 nc5) (.slice ao6 an6 ac6)) := HM3.out.row
                  have HR3 : Hid (u3.heap[X9.heap.size]? = some (.cells #[.int .i64 k5, .string t5, .slice no5 nn5 nc5, .slice ao6 an6 ac6] 28 (0, 0))) := hg3.row HR2.out (fun e => by have := hlt6 _ e; omega)
                  clear hn3 hg3 hx3
                  refine hK.out _ _ HS3.out (fun hHeld => ?_)
                  clear hK K
                  try simp only [List.getElem_toArray, List.getElem_cons_succ, List.getElem_cons_zero, Act.put, List.setIfInBounds_toArray, List.set_cons_zero, List.set_cons_succ]
                  refine wpAnyH_ready (rs := [7]) (by kernel_rfl) (by simp) ?_
                  refine (AllReadyH.cons rfl (fun K hK => ?_) AllReadyH.nil)
                  obtain ⟨xsv, hov, hBv, hpush⟩ := HM3.out.value hgW2 hgeb hneg rfl
                  rw [HNVL.out] at hov hpush
                  refine wp_appT (Operand.tmp 56) (Operand.tmp 58) rfl W2.heap.size (.slice vo nvv vc) nvv xsv rfl hov (X9.heap.size) 1 (by go_simp) (#[.int .i64 k5, .string t5, .slice no5 nn5 nc5, .slice ao6 an6 ac6] : Array Value).toList rfl (fun i u hu => by rw [Lib.cell_of_heap HR3.out]; simpa using hu) (by intro u hu; simp at hu; rcases hu with rfl | rfl | rfl | rfl <;> rfl) (by omega) hBv ?_
                  intro vv' u7 hn7 hg7 hv7
                  obtain ⟨vo', vc', rfl⟩ := own_form hn7
                  have HM7 := Lib.hid (hpush _ _ hn7 hg7 hv7)
                  have HS7 : Hid (EB u7 p9 k5 t5 (.slice no5 nn5 nc5) (.slice ao6 an6 ac6)) := HM7.out.row
                  clear hn7 hg7 hv7 hov hpush
                  refine hK.out _ _ HS7.out (fun hHeld => ?_)
                  clear hK K
                  try simp only [List.getElem_toArray, List.getElem_cons_succ, List.getElem_cons_zero, Act.put, List.setIfInBounds_toArray, List.set_cons_zero, List.set_cons_succ]
                  refine wpAnyH_take (i := 8) (v := Value.slice mo' (nm + 1) mc') rfl (by kernel_rfl) (by kernel_rfl) (by kernel_rfl) (fun _ _ _ h => h) (Or.inl ⟨rfl, fun w' hw' => ?_⟩) hHeld ?_
                  · go_simp
                  simp only [List.getElem_toArray, List.getElem_cons_succ, List.getElem_cons_zero, Act.put, List.setIfInBounds_toArray, List.set_cons_zero, List.set_cons_succ]
                  refine wpAnyH_take (i := 9) (v := Value.slice vo' (nvv + 1) vc') rfl (by kernel_rfl) (by kernel_rfl) (by kernel_rfl) (fun _ _ _ h => h) (Or.inl ⟨rfl, fun w' hw' => ?_⟩) hHeld ?_
                  · go_simp
                  simp only [List.getElem_toArray, List.getElem_cons_succ, List.getElem_cons_zero, Act.put, List.setIfInBounds_toArray, List.set_cons_zero, List.set_cons_succ]
                  refine wpAnyH_done (by kernel_rfl) ?_ _
                  refine NoPanic.normal ?_
                  clear hHeld

                  go_wp2_with fail
                  refine (var_any pnm u7).mono ?_
                  rintro r u12 ⟨rfl, hb12⟩
                  have HM12 := Lib.hid (HM7.out.below hgW2 hneg hb12)
                  have hr12 : u12.heap[p9]? = some (.cells #[.int .i64 k5, .string t5, .slice no5 nn5 nc5, .slice ao6 an6 ac6] 28 (0, 0)) := HM12.out.row
                  have HR12 := Lib.hid hr12
                  have zv : (#[.int .i64 5, .string pnm, .slice none 0 0, .slice none 0 0] : Array Value).all (·.oneCell') = true := by simp [Value.oneCell']
                  have HMID := Lib.hid (HM12.out.setP hgW2 hgeb pnm)
                  have hmp1 : nms ++ [pnm] = (ps ++ [(pnm, x5)]).map (·.1) := by rw [List.map_append, ← HNS.out]; rfl
                  have hmp2 : vals ++ [x5] = (ps ++ [(pnm, x5)]).map (·.2) := by rw [List.map_append, ← HVS.out]; rfl
                  rw [hmp1, hmp2] at HMID
                  clear hb12 hr12 HM12 hmp1 hmp2
                  go_upto_region 13 with (refine wpList_store_row rfl 28 _ _ rfl p9 #[.int .i64 5, .string pnm, .slice none 0 0, .slice none 0 0] rfl rfl 28 _ HR12.out info28 rfl zv ?_)
                  try simp only [Act.put]
                  generalize u12.setRow p9 #[.int .i64 5, .string pnm, .slice none 0 0, .slice none 0 0] = w12 at HMID ⊢
                  clear HR12 zv
                  obtain ⟨xs, hx8, hB8, c3, hc9⟩ := HMID.out.app hgW2 hgeb hneg rfl
                  rw [HNPL.out] at hx8 hc9
                  have HX8 := Lib.hid hx8
                  have HC9 := Lib.hid hc9
                  have hr8 : w12.heap[p9]? = some (.cells #[.int .i64 5, .string pnm, .slice none 0 0, .slice none 0 0] 28 (0, 0)) := HMID.out.row
                  obtain ⟨f0, f1, f2, f3⟩ := EB.cell _ _ _ _ _ _ (show EB w12 p9 _ _ _ _ from hr8)
                  have c3' : w12.cell? ⟨ge, 3, none⟩ = some (.slice ao5 np ac5) := (EB.cell _ _ _ _ _ _ HMID.out.eb).2.2.2
                  clear hx8 hc9 hr8 HMID
                  go_wp2_with (at_builtin; refine wpList_app rfl (Operand.tmp 63) (Operand.tmp 65) rfl W2.heap.size (.slice ao5 np ac5) np xs rfl HX8.out w12.heap.size 1 rfl (#[.int .i64 5, .string pnm, .slice none 0 0, .slice none 0 0] : Array Value).toList rfl (row_cellsT _ 28 _) (by intro u hu; simp at hu; rcases hu with rfl | rfl | rfl | rfl <;> rfl) hml2 hB8 ?_; intro av' w9 hown9 hg9 hv9; obtain ⟨ao', ac', rfl⟩ := own_form hown9; obtain ⟨c9, f9, hrest9⟩ := HC9.out _ _ hown9 hg9 hv9; have HRE := Lib.hid hrest9; clear hrest9 hown9 hg9 hv9)
                  go_roundw
                  case rel => exact HREL.out _ _ _ _ _ HSN2.out HRE.out
                  case measure => simp [intOf]; omega
              · have hsn := HSN.out a[j]
                rw [← take_snoc_et a j hlt, ← HMM.out, ← HMD.out, ← HPS.out, ← HX5.out, ← HM5.out, hs2, hb] at hsn
                have HSN2 : Hid (Et.nrms k t n 0 (a.take (j + 1)) = (m5, made ++ [x5], ps)) := hsn
                rw [HVS.out, HNS.out] at HMID
                clear hsn HSN hb hs2
                obtain ⟨xs, hx8, hB8, c3, hc9⟩ := HMID.out.app hgW2 hgeb hneg rfl
                rw [HNPL.out] at hx8 hc9
                have HX8 := Lib.hid hx8
                have HC9 := Lib.hid hc9
                have hr8 : u8.heap[p9]? = some (.cells #[.int .i64 k5, .string t5, .slice no5 nn5 nc5, .slice ao6 an6 ac6] 28 (0, 0)) := HMID.out.row
                obtain ⟨f0, f1, f2, f3⟩ := EB.cell _ _ _ _ _ _ (show EB u8 p9 _ _ _ _ from hr8)
                have c3' : u8.cell? ⟨ge, 3, none⟩ = some (.slice ao5 np ac5) := (EB.cell _ _ _ _ _ _ HMID.out.eb).2.2.2
                clear hx8 hc9 hr8 HMID
                go_wp2_with (at_builtin; refine wpList_app rfl (Operand.tmp 63) (Operand.tmp 65) rfl W2.heap.size (.slice ao5 np ac5) np xs rfl HX8.out u8.heap.size 1 rfl (#[.int .i64 k5, .string t5, .slice no5 nn5 nc5, .slice ao6 an6 ac6] : Array Value).toList rfl (row_cellsT _ 28 _) (by intro u hu; simp at hu; rcases hu with rfl | rfl | rfl | rfl <;> rfl) hml2 hB8 ?_; intro av' w9 hown9 hg9 hv9; obtain ⟨ao', ac', rfl⟩ := own_form hown9; obtain ⟨c9, f9, hrest9⟩ := HC9.out _ _ hown9 hg9 hv9; have HRE := Lib.hid hrest9; clear hrest9 hown9 hg9 hv9)
                go_roundw
                case rel => exact HREL.out _ _ _ _ _ HSN2.out HRE.out
                case measure => simp [intOf]; omega
            · have p1 : decide (z ≤ (j : Int)) = false := decide_eq_false hzj
              have hs2 : slot k t (0 + (a.take j).length) = false := by rw [List.length_take, Nat.min_eq_left hj, Nat.zero_add, HSJ.out, p0, p1]; rfl
              have hsn := HSN.out a[j]
              rw [← take_snoc_et a j hlt, ← HMM.out, ← HMD.out, ← HPS.out, ← HX5.out, ← HM5.out, hs2] at hsn
              have HSN2 : Hid (Et.nrms k t n 0 (a.take (j + 1)) = (m5, made ++ [x5], ps)) := hsn
              rw [HVS.out, HNS.out] at HMID
              clear hsn HSN hs2 HNL HR8
              obtain ⟨xs, hx8, hB8, c3, hc9⟩ := HMID.out.app hgW2 hgeb hneg rfl
              rw [HNPL.out] at hx8 hc9
              have HX8 := Lib.hid hx8
              have HC9 := Lib.hid hc9
              have hr8 : w8.heap[p9]? = some (.cells #[.int .i64 k5, .string t5, .slice no5 nn5 nc5, .slice ao6 an6 ac6] 28 (0, 0)) := HMID.out.row
              obtain ⟨f0, f1, f2, f3⟩ := EB.cell _ _ _ _ _ _ (show EB w8 p9 _ _ _ _ from hr8)
              have c3' : w8.cell? ⟨ge, 3, none⟩ = some (.slice ao5 np ac5) := (EB.cell _ _ _ _ _ _ HMID.out.eb).2.2.2
              clear hx8 hc9 hr8 HMID
              go_wp2_with (at_builtin; refine wpList_app rfl (Operand.tmp 63) (Operand.tmp 65) rfl W2.heap.size (.slice ao5 np ac5) np xs rfl HX8.out w8.heap.size 1 rfl (#[.int .i64 k5, .string t5, .slice no5 nn5 nc5, .slice ao6 an6 ac6] : Array Value).toList rfl (row_cellsT _ 28 _) (by intro u hu; simp at hu; rcases hu with rfl | rfl | rfl | rfl <;> rfl) hml2 hB8 ?_; intro av' w9 hown9 hg9 hv9; obtain ⟨ao', ac', rfl⟩ := own_form hown9; obtain ⟨c9, f9, hrest9⟩ := HC9.out _ _ hown9 hg9 hv9; have HRE := Lib.hid hrest9; clear hrest9 hown9 hg9 hv9)
              go_roundw
              case rel => exact HREL.out _ _ _ _ _ HSN2.out HRE.out
              case measure => simp [intOf]; omega
          · have p0 : decide (0 ≤ z) = false := decide_eq_false hz0
            have hs2 : slot k t (0 + (a.take j).length) = false := by rw [List.length_take, Nat.min_eq_left hj, Nat.zero_add, HSJ.out, p0]; rfl
            have hsn := HSN.out a[j]
            rw [← take_snoc_et a j hlt, ← HMM.out, ← HMD.out, ← HPS.out, ← HX5.out, ← HM5.out, hs2] at hsn
            have HSN2 : Hid (Et.nrms k t n 0 (a.take (j + 1)) = (m5, made ++ [x5], ps)) := hsn
            rw [HVS.out, HNS.out] at HMID
            clear hsn HSN hs2 HNL HR8
            obtain ⟨xs, hx8, hB8, c3, hc9⟩ := HMID.out.app hgW2 hgeb hneg rfl
            rw [HNPL.out] at hx8 hc9
            have HX8 := Lib.hid hx8
            have HC9 := Lib.hid hc9
            have hr8 : w8.heap[p9]? = some (.cells #[.int .i64 k5, .string t5, .slice no5 nn5 nc5, .slice ao6 an6 ac6] 28 (0, 0)) := HMID.out.row
            obtain ⟨f0, f1, f2, f3⟩ := EB.cell _ _ _ _ _ _ (show EB w8 p9 _ _ _ _ from hr8)
            have c3' : w8.cell? ⟨ge, 3, none⟩ = some (.slice ao5 np ac5) := (EB.cell _ _ _ _ _ _ HMID.out.eb).2.2.2
            clear hx8 hc9 hr8 HMID
            go_wp2_with (at_builtin; refine wpList_app rfl (Operand.tmp 63) (Operand.tmp 65) rfl W2.heap.size (.slice ao5 np ac5) np xs rfl HX8.out w8.heap.size 1 rfl (#[.int .i64 k5, .string t5, .slice no5 nn5 nc5, .slice ao6 an6 ac6] : Array Value).toList rfl (row_cellsT _ 28 _) (by intro u hu; simp at hu; rcases hu with rfl | rfl | rfl | rfl <;> rfl) hml2 hB8 ?_; intro av' w9 hown9 hg9 hv9; obtain ⟨ao', ac', rfl⟩ := own_form hown9; obtain ⟨c9, f9, hrest9⟩ := HC9.out _ _ hown9 hg9 hv9; have HRE := Lib.hid hrest9; clear hrest9 hown9 hg9 hv9)
            go_roundw
            case rel => exact HREL.out _ _ _ _ _ HSN2.out HRE.out
            case measure => simp [intOf]; omega
        · have q1 : decide ((j : Int) < (a.length : Int)) = false := decide_eq_false (by omega)
          obtain ⟨wo, rfl⟩ : ∃ wo, wo = wr := ⟨_, rfl⟩
          obtain rfl : j = a.length := by omega
          have hta : a.take a.length = a := List.take_length
          have hmd := HMD.out
          have hps := HPS.out
          have hmm := HMM.out
          rw [hta] at hmd hps hmm
          have hnt : NAt (fun x => W1.heap.size ≤ x ∧ x ≠ ge) wo (.slice no' ns.length nc') ns := by
            have h1 := (HXN.out.at).bound
            refine NAt.mono (NAt.keeps (S := fun x => (W1.heap.size ≤ x ∧ (Value.slice no' ns.length nc').ownBlock = some x) ∧ x < W2.heap.size) h1 (fun x c T fz hx hxx _ => ⟨fz, ?_⟩)) (fun x hx => ⟨hx.1.1, HAP.out x hx.1.2⟩)
            rw [HMI.out.but.block x hx.2 (by have := hx.1.1; omega) (HAP.out x hx.1.2)]; exact hxx
          have hat : Et.At (fun x => W1.heap.size ≤ x ∧ x ≠ ge) wo (.mk k t ns made) #[.int .i64 k, .string t, (.slice no' ns.length nc'), .slice ao5 np ac5] := by
            rw [EAt_mk]
            exact ⟨_, _, rfl, hnt, HMI.out.own.at.mono (fun x hx => by have : W2.heap.size ≤ x := hx; exact ⟨by omega, by omega⟩)⟩
          have hnm2 : NAt (fun x => W2.heap.size ≤ x) wo (.slice mo nm mc) nms := NAt.mono HMI.out.nam.at (fun x hx => hx.1)
          have HNT := Lib.hid hnm2
          have HVT := Lib.hid (HMI.out.val.at)
          have HCNT : Hid (Rk wo g ((Et.mk k t ns a).nrm n).1) := by rw [HEQ.out, ← hmm]; exact HMI.out.cn
          have HLT : Hid (((Et.mk k t ns a).nrm n).2 = lets ps (.mk k t ns made)) := by show ((Et.mk k t ns a).nrm n).2 = lets ps (.mk k t ns made); rw [HEQ.out, ← hps, ← hmd]
          have HST : Hid (RLet ps (.mk k t ns made) W1.heap.size ge wo (.int .i64 (nm : Int)) wo) := ⟨ps.length, _, Nat.le_refl _, by rw [HPL.out], HMI.out.eb, by rw [List.drop_length]; exact hat, But.refl _ _ _⟩
          have HGR : Hid (wo.heap[gr]? = some (.cells Z4 28 (0, 0))) := by
            show _ = _
            rw [HB1r.out.block gr hgr1 (by omega)]; exact HZ.out
          have hgrge : gr ≠ ge := by omega
          have hgwr : ge < wo.heap.size := by omega
          clear hta hmd hps hmm hnt hat hnm2
          go_wp2_with fail
          go_loopw [12] (fun iv wr' => RLet ps (.mk k t ns made) W1.heap.size ge wo iv wr') (fun iv _ => (intOf iv).toNat)
          case atStart => exact HST.out
          case round =>
            obtain ⟨i, cs, hi, rfl, hrow, hatx, hbx⟩ := hrel
            obtain ⟨k8, t8, no8, nn8, nc8, ao8, an8, ac8, rfl⟩ := EAt_sl hatx
            have HROW : Hid (EB wr ge k8 t8 (.slice no8 nn8 nc8) (.slice ao8 an8 ac8)) := hrow
            have HATX := Lib.hid hatx
            have HBX := Lib.hid hbx
            clear HST hrow hatx hbx
            by_cases hi0 : 0 < i
            · have q3 : decide (0 < (i : Int)) = true := decide_eq_true (by omega)
              obtain ⟨q, hq⟩ : ∃ q, i = q + 1 := ⟨i - 1, by omega⟩
              have e1 : (i : Int) - 1 = (q : Int) := by omega
              have hpl := HPL.out
              have hnv := HNV.out
              have hqm : q < nm := by omega
              have hqv : q < nvv := by omega
              have hqp : q < ps.length := by omega
              have hql : q < nms.length := by rw [HNML.out]; exact hqm
              have hqvl : q < vals.length := by rw [HNVL.out]; exact hqv
              have hnt2 : NAt (fun x => W2.heap.size ≤ x) wr (.slice mo nm mc) nms := HNT.out.keeps (HBX.out.keeps (fun x hx => by have : W2.heap.size ≤ x := hx; omega))
              have hvt2 := AAt.keeps HVT.out (HBX.out.keeps (fun x hx => by have : W2.heap.size ≤ x := hx; omega))
              obtain ⟨gm, om, hmo, -, cn⟩ := hnt2.get q hql
              obtain ⟨gv, ov, k7, t7, nv7, av7, hvo, -, -, hat7, e0, e1', e2, e3, -, -⟩ := hvt2.get q hqvl
              subst hmo hvo
              obtain ⟨no7, nn7, nc7, ao7, an7, ac7, rfl, rfl⟩ : ∃ nod nnd ncd aod ad cd, nv7 = .slice nod nnd ncd ∧ av7 = .slice aod ad cd := by
                obtain ⟨k3, t3, no2, nn2, nc2, ao4, an2, ac2, e4⟩ := EAt_sl hat7
                simp only [Array.mk.injEq, List.cons.injEq, Value.int.injEq, Value.string.injEq, and_true, true_and] at e4
                exact ⟨_, _, _, _, _, _, e4.2.2.1, e4.2.2.2⟩
              obtain ⟨sq, hsq⟩ : ∃ s, s = nms[q] := ⟨_, rfl⟩
              rw [← hsq] at cn
              have hsp : sq = (ps[q]'hqp).1 := by
                have : nms[q]? = some (ps[q]'hqp).1 := by rw [HNS.out]; simp [hqp]
                rw [List.getElem?_eq_getElem hql] at this
                injection this with this
                rw [hsq]; exact this
              have hvp : vals[q] = (ps[q]'hqp).2 := by
                have : vals[q]? = some (ps[q]'hqp).2 := by rw [HVS.out]; simp [hqp]
                rw [List.getElem?_eq_getElem hqvl] at this
                injection this with this
              obtain ⟨vq, hvq⟩ : ∃ v, v = (ps[q]'hqp).2 := ⟨_, rfl⟩
              rw [hvp, ← hvq] at hat7
              have hat7' : Et.At (fun x => W1.heap.size ≤ x ∧ x ≠ ge) wr vq #[.int .i64 k7, .string t7, .slice no7 nn7 nc7, .slice ao7 an7 ac7] := Et.At.mono (fun x hx => by have : W2.heap.size ≤ x := hx; exact ⟨by omega, by omega⟩) _ _ hat7
              have HLD : Hid (lets (ps.drop q) (.mk k t ns made) = ebind sq vq (lets (ps.drop i) (.mk k t ns made))) := by
                have h := lets_drop ps (q + 1) (by omega) (by omega) (.mk k t ns made)
                rw [hsp, hvq, hq]; exact h
              have HBD : Hid (∀ w', Below wr.heap.size wr w' → Calls Tryd.prog 27 #[.string sq, .agg #[.int .i64 k7, .string t7, .slice no7 nn7 nc7, .slice ao7 an7 ac7], .agg #[.int .i64 k8, .string t8, .slice no8 nn8 nc8, .slice ao8 an8 ac8]] w' (RetBind (fun x => W1.heap.size ≤ x ∧ x ≠ ge) sq vq (lets (ps.drop i) (.mk k t ns made)) w')) := fun w' hw' => bind_any sq _ _ _ _ _ w' (Et.At.keeps (Keeps.of_below hw') _ _ hat7') (Et.At.keeps (Keeps.of_below hw') _ _ HATX.out)
              have hge2 : ge < wr.heap.size := (Array.getElem?_eq_some_iff.1 HROW.out).1
              have hgm : gm ≠ ge := by
                rcases hnt2 with h | ⟨g0, o0, c0, a0, f0, e5, hS, -⟩
                · exact absurd h.2 (by intro e; rw [e] at hql; simp at hql)
                · injection e5 with e5
                  injection e5 with e5
                  injection e5 with e5
                  have : W2.heap.size ≤ g0 := hS
                  omega
              have hgv : gv ≠ ge := by
                rcases hvt2 with h | ⟨g0, o0, c0, a0, f0, e5, hS, -⟩
                · exact absurd h.2 (by intro e; rw [e] at hqvl; simp at hqvl)
                · injection e5 with e5
                  injection e5 with e5
                  injection e5 with e5
                  have : W2.heap.size ≤ g0 := hS
                  omega
              have hwr2 := HBX.out.size
              have HC17 : Hid (∀ w', But wr.heap.size ge wr w' → w'.cell? ⟨gm, om + q, none⟩ = some (.string sq) ∧ w'.cell? ⟨gv, ov + q * 4, none⟩ = some (.int .i64 k7) ∧ w'.cell? ⟨gv, ov + q * 4 + 1, none⟩ = some (.string t7) ∧ w'.cell? ⟨gv, ov + q * 4 + 2, none⟩ = some (.slice no7 nn7 nc7) ∧ w'.cell? ⟨gv, ov + q * 4 + 3, none⟩ = some (.slice ao7 an7 ac7)) := fun w' hw' => by
                have hcell : ∀ (p : Addr) v, wr.cell? p = some v → p.block ≠ ge → w'.cell? p = some v := fun p v h hne => by rw [hw'.cell (World.block_lt_of_cell? wr _ h) hne]; exact h
                exact ⟨hcell _ _ cn hgm, hcell _ _ e0 hgv, hcell _ _ e1' hgv, hcell _ _ e2 hgv, hcell _ _ e3 hgv⟩
              have hqi : q ≤ ps.length := by omega
              have HQ := Lib.hid hq
              clear hvq hq hpl hnv hat7 hat7' hsp hvp hsq cn e0 e1' e2 e3 hnt2 hvt2 hqp hql hqvl
              go_upto_region 17 with fail
              have HS0 : Hid (But wr.heap.size ge wr wr.drew) := (But.refl _ _ _).drew
              have HSB : Hid (Below wr.heap.size wr wr.drew) := (Below.refl _ _).drew
              refine wp_region_noPanic ?_
              refine wp_region_held_drew (S := fun w' => But wr.heap.size ge wr w') (by kernel_rfl) HS0.out (fun hHeld => ?_)
              generalize wr.drew = X7 at HS0 HSB hHeld ⊢
              refine wpAnyH_take (i := 0) (v := Value.slice (some ⟨gm, om, none⟩) nm mc) rfl (by kernel_rfl) (by kernel_rfl) (by kernel_rfl) (fun _ _ _ h => h) (Or.inl ⟨rfl, fun w' hw' => ?_⟩) hHeld ?_
              · go_simp
              simp only [List.getElem_toArray, List.getElem_cons_succ, List.getElem_cons_zero, Act.put, List.setIfInBounds_toArray, List.set_cons_zero, List.set_cons_succ]
              refine wpAnyH_take (i := 1) (v := Value.int .i64 (i : Int)) rfl (by kernel_rfl) (by kernel_rfl) (by kernel_rfl) (fun _ _ _ h => h) (Or.inl ⟨rfl, fun w' hw' => ?_⟩) hHeld ?_
              · go_simp
              simp only [List.getElem_toArray, List.getElem_cons_succ, List.getElem_cons_zero, Act.put, List.setIfInBounds_toArray, List.set_cons_zero, List.set_cons_succ]
              refine wpAnyH_take (i := 2) (v := Value.int .i64 (q : Int)) rfl (by kernel_rfl) (by kernel_rfl) (by kernel_rfl) (fun _ _ _ h => h) (Or.inl ⟨rfl, fun w' hw' => ?_⟩) hHeld ?_
              · go_simp; exact wrap_nat q (by omega)
              simp only [List.getElem_toArray, List.getElem_cons_succ, List.getElem_cons_zero, Act.put, List.setIfInBounds_toArray, List.set_cons_zero, List.set_cons_succ]
              refine wpAnyH_take (i := 3) (v := Value.pointer (some ⟨gm, om + q, none⟩)) rfl (by kernel_rfl) (by kernel_rfl) (by kernel_rfl) (fun _ _ _ h => h) (Or.inl ⟨rfl, fun w' hw' => ?_⟩) hHeld ?_
              · go_simp
              simp only [List.getElem_toArray, List.getElem_cons_succ, List.getElem_cons_zero, Act.put, List.setIfInBounds_toArray, List.set_cons_zero, List.set_cons_succ]
              refine wpAnyH_take (i := 4) (v := Value.string sq) rfl (by kernel_rfl) (by kernel_rfl) (by kernel_rfl) (fun _ _ _ h => h) (Or.inl ⟨rfl, fun w' hw' => ?_⟩) hHeld ?_
              · obtain ⟨p0, y0, y1, y2, y3⟩ := HC17.out w' hw'; go_simp
              simp only [List.getElem_toArray, List.getElem_cons_succ, List.getElem_cons_zero, Act.put, List.setIfInBounds_toArray, List.set_cons_zero, List.set_cons_succ]
              refine wpAnyH_take (i := 5) (v := Value.slice (some ⟨gv, ov, none⟩) nvv vc) rfl (by kernel_rfl) (by kernel_rfl) (by kernel_rfl) (fun _ _ _ h => h) (Or.inl ⟨rfl, fun w' hw' => ?_⟩) hHeld ?_
              · go_simp
              simp only [List.getElem_toArray, List.getElem_cons_succ, List.getElem_cons_zero, Act.put, List.setIfInBounds_toArray, List.set_cons_zero, List.set_cons_succ]
              refine wpAnyH_take (i := 6) (v := Value.int .i64 (i : Int)) rfl (by kernel_rfl) (by kernel_rfl) (by kernel_rfl) (fun _ _ _ h => h) (Or.inl ⟨rfl, fun w' hw' => ?_⟩) hHeld ?_
              · go_simp
              simp only [List.getElem_toArray, List.getElem_cons_succ, List.getElem_cons_zero, Act.put, List.setIfInBounds_toArray, List.set_cons_zero, List.set_cons_succ]
              refine wpAnyH_take (i := 7) (v := Value.int .i64 (q : Int)) rfl (by kernel_rfl) (by kernel_rfl) (by kernel_rfl) (fun _ _ _ h => h) (Or.inl ⟨rfl, fun w' hw' => ?_⟩) hHeld ?_
              · go_simp; exact wrap_nat q (by omega)
              simp only [List.getElem_toArray, List.getElem_cons_succ, List.getElem_cons_zero, Act.put, List.setIfInBounds_toArray, List.set_cons_zero, List.set_cons_succ]
              refine wpAnyH_take (i := 8) (v := Value.pointer (some ⟨gv, ov + q * 4, none⟩)) rfl (by kernel_rfl) (by kernel_rfl) (by kernel_rfl) (fun _ _ _ h => h) (Or.inl ⟨rfl, fun w' hw' => ?_⟩) hHeld ?_
              · go_simp
              simp only [List.getElem_toArray, List.getElem_cons_succ, List.getElem_cons_zero, Act.put, List.setIfInBounds_toArray, List.set_cons_zero, List.set_cons_succ]
              refine wpAnyH_take (i := 9) (v := Value.agg #[.int .i64 k7, .string t7, .slice no7 nn7 nc7, .slice ao7 an7 ac7]) rfl (by kernel_rfl) (by kernel_rfl) (by kernel_rfl) (fun _ _ _ h => h) (Or.inl ⟨rfl, fun w' hw' => ?_⟩) hHeld ?_
              · obtain ⟨p0, y0, y1, y2, y3⟩ := HC17.out w' hw'; go_simp
              simp only [List.getElem_toArray, List.getElem_cons_succ, List.getElem_cons_zero, Act.put, List.setIfInBounds_toArray, List.set_cons_zero, List.set_cons_succ]
              refine wpAnyH_ready (rs := [10]) (by kernel_rfl) (by simp) ?_
              refine (AllReadyH.cons rfl (fun K hK => ?_) AllReadyH.nil)
              obtain ⟨x0, x1, x2, x3⟩ := EB.cell _ _ _ _ _ _ (show EB X7 ge k8 t8 _ _ from row_below HSB.out HROW.out)
              go_simp
              clear x0 x1 x2 x3
              refine hK.out _ _ HS0.out (fun hHeld => ?_)
              clear hK K
              try simp only [List.getElem_toArray, List.getElem_cons_succ, List.getElem_cons_zero, Act.put, List.setIfInBounds_toArray, List.set_cons_zero, List.set_cons_succ]
              refine wpAnyH_ready (rs := [11]) (by kernel_rfl) (by simp) ?_
              refine (AllReadyH.cons rfl (fun K hK => ?_) AllReadyH.nil)
              go_simp
              refine (HBD.out X7 HSB.out).mono ?_
              rintro r u11 ⟨cs9, rfl, hat9, hb9⟩
              obtain ⟨k9, t9, no9, nn9, nc9, ao9, an9, ac9, rfl⟩ := EAt_sl hat9
              have HS11 : Hid (But wr.heap.size ge wr u11) := But.of (HSB.out.trans (hb9.mono HSB.out.size))
              have HR11 : Hid (EB u11 ge k8 t8 (.slice no8 nn8 nc8) (.slice ao8 an8 ac8)) := row_below hb9 (row_below HSB.out HROW.out)
              have hXs := HSB.out.size
              have HA11 : Hid (Et.At (fun x => W1.heap.size ≤ x ∧ x ≠ ge) (u11.setRow ge #[.int .i64 k9, .string t9, .slice no9 nn9 nc9, .slice ao9 an9 ac9]) (ebind sq vq (lets (ps.drop i) (.mk k t ns made))) #[.int .i64 k9, .string t9, .slice no9 nn9 nc9, .slice ao9 an9 ac9]) := by
                have h1 := Et.At.mono (T := fun x => W1.heap.size ≤ x ∧ x ≠ ge) (fun x hx => by rcases hx with hx | hx; exact hx; (have : X7.heap.size ≤ x := hx; exact ⟨by omega, by omega⟩)) _ _ hat9
                exact Et.At.keeps (S := fun x => W1.heap.size ≤ x ∧ x ≠ ge) (fun x c T fz hs hx _ => ⟨fz, by rw [setRow_other u11 ge x _ hs.2]; exact hx⟩) _ _ h1
              have HS12 : Hid (But wr.heap.size ge wr (u11.setRow ge #[.int .i64 k9, .string t9, .slice no9 nn9 nc9, .slice ao9 an9 ac9])) := HS11.out.trans ⟨rfl, rfl, rfl, by simp, fun x hx hne => setRow_other u11 ge x _ hne⟩
              clear hat9 hb9 hXs
              refine hK.out _ _ HS11.out (fun hHeld => ?_)
              clear hK K
              try simp only [List.getElem_toArray, List.getElem_cons_succ, List.getElem_cons_zero, Act.put, List.setIfInBounds_toArray, List.set_cons_zero, List.set_cons_succ]
              have z9 : (#[.int .i64 k9, .string t9, .slice no9 nn9 nc9, .slice ao9 an9 ac9] : Array Value).all (·.oneCell') = true := by simp [Value.oneCell']
              refine wpAnyH_ready (rs := [12]) (by kernel_rfl) (by simp) ?_
              refine (AllReadyH.cons rfl (fun K hK => ?_) AllReadyH.nil)
              refine wp_store_row 28 _ _ rfl ge #[.int .i64 k9, .string t9, .slice no9 nn9 nc9, .slice ao9 an9 ac9] (by go_simp) rfl 28 _ HR11.out info28 rfl z9 ?_
              refine hK.out _ _ HS12.out (fun hHeld => ?_)
              clear hK K
              try simp only [List.getElem_toArray, List.getElem_cons_succ, List.getElem_cons_zero, Act.put, List.setIfInBounds_toArray, List.set_cons_zero, List.set_cons_succ]
              refine wpAnyH_done (by kernel_rfl) ?_ _
              refine NoPanic.normal ?_
              clear hHeld
              have HFIN : Hid (RLet ps (.mk k t ns made) W1.heap.size ge wo (.int .i64 (q : Int)) (u11.setRow ge #[.int .i64 k9, .string t9, .slice no9 nn9 nc9, .slice ao9 an9 ac9])) := ⟨q, #[.int .i64 k9, .string t9, .slice no9 nn9 nc9, .slice ao9 an9 ac9], hqi, rfl, setRow_heap u11 _ _ _ 28 _ HR11.out, by rw [HLD.out]; exact HA11.out, HBX.out.trans (HS12.out.mono hwr2)⟩
              clear HC17 HBD HLD HS0 HSB HS11 HS12 HA11 HR11 hgm hgv
              generalize u11.setRow ge #[.int .i64 k9, .string t9, .slice no9 nn9 nc9, .slice ao9 an9 ac9] = w12 at HFIN ⊢
              go_wp2_with fail
              go_roundw
              case rel => exact HFIN.out
              case measure => simp [intOf]; omega
            · have q3 : decide (0 < (i : Int)) = false := decide_eq_false (by omega)
              obtain rfl : i = 0 := by omega
              have hatx := HATX.out
              rw [List.drop_zero] at hatx
              have hgr2 : wr.heap[gr]? = some (.cells Z4 28 (0, 0)) := by rw [HBX.out.block gr (Array.getElem?_eq_some_iff.1 HGR.out).1 hgrge]; exact HGR.out
              have HGR2 := Lib.hid hgr2
              have z8 : (#[.int .i64 k8, .string t8, .slice no8 nn8 nc8, .slice ao8 an8 ac8] : Array Value).all (·.oneCell') = true := by simp [Value.oneCell']
              have HFIN : Hid (RetRn (.mk k t ns a) n g w (.returned (.agg #[.int .i64 k8, .string t8, .slice no8 nn8 nc8, .slice ao8 an8 ac8])) (wr.setRow gr #[.int .i64 k8, .string t8, .slice no8 nn8 nc8, .slice ao8 an8 ac8])) :=
                rn_end HB1.out HXB.out HMI.out.but HBX.out hgrw hgr1 hge8 hgw HCNT.out (by rw [HLT.out]; exact hatx)
              clear hatx hgr2 HATX
              go_wp2_with (first | (refine wpList_load_row rfl 28 _ rfl ge rfl 28 #[.int .i64 k8, .string t8, .slice no8 nn8 nc8, .slice ao8 an8 ac8] (0, 0) _ HROW.out Tryd.underlying28 rfl info28 ?_) | (refine wpList_store_row rfl 28 _ _ rfl gr #[.int .i64 k8, .string t8, .slice no8 nn8 nc8, .slice ao8 an8 ac8] rfl rfl 28 Z4 HGR2.out info28 rfl z8 ?_))
              refine bodyPost_ret (results_cell_row rfl _ _ gr 28 #[.int .i64 k8, .string t8, .slice no8 nn8 nc8, .slice ao8 an8 ac8] (0, 0) _ rfl (setRow_heap wr _ _ _ 28 _ HGR2.out) Tryd.underlying28 rfl info28) rfl ?_
              exact HFIN.out
  · skip
    have HB9 : Hid (Below W1.heap.size W1 (X.alloc (.cells Z4 28))) := HX.out.alloc HX.out.size _
    skip
    have hz9 := alloc_at (X) (.cells Z4 28)
    have hge8 := HX.out.size
    skip
    have HZ9 : Hid ((X.alloc (.cells Z4 28)).heap[X.heap.size]? = some (.cells Z4 28 (0, 0))) := hz9
    clear hz9
    go_simp
    refine hK.out _ _ HB9.out (fun hHeld => ?_)
    clear hK K
    try simp only [List.getElem_toArray, List.getElem_cons_succ, List.getElem_cons_zero, Act.put, List.setIfInBounds_toArray, List.set_cons_zero, List.set_cons_succ]
    refine wpAnyH_ready (rs := [4]) (by kernel_rfl) (by simp) ?_
    refine (AllReadyH.cons rfl (fun K hK => ?_) AllReadyH.nil)
    have HB4 : Hid (Below W1.heap.size W1 ((X.alloc (.cells Z4 28)).alloc (.cells #[] 9))) := HB9.out.alloc HB9.out.size _
    have HN4 := Lib.hid (OwnN.lit W1.heap.size (X.alloc (.cells Z4 28)) HB9.out.size)
    have HZ4 : Hid (((X.alloc (.cells Z4 28)).alloc (.cells #[] 9)).heap[X.heap.size]? = some (.cells Z4 28 (0, 0))) := row_below ((Below.refl _ _).alloc (Nat.le_refl _) _) HZ9.out
    go_simp
    refine hK.out _ _ HB4.out (fun hHeld => ?_)
    clear hK K
    try simp only [List.getElem_toArray, List.getElem_cons_succ, List.getElem_cons_zero, Act.put, List.setIfInBounds_toArray, List.set_cons_zero, List.set_cons_succ]
    refine wpAnyH_ready (rs := [7]) (by kernel_rfl) (by simp) ?_
    refine (AllReadyH.cons rfl (fun K hK => ?_) AllReadyH.nil)
    have HM6 := Lib.hid (HM.out.keeps (Keeps.of_below HB4.out))
    refine wp_appNr (Operand.tmp 17) (Operand.tmp 19) rfl W1.heap.size (.slice (some ⟨(X.alloc (.cells Z4 28)).heap.size, 0, none⟩) 0 0) [] (by go_simp) HN4.out _ ns rfl HM6.out (by simp; omega) HB4.out.size rfl ?_
    intro v' w6 hown6 hg6 hnx6
    obtain ⟨no', nc', rfl⟩ := own_form hown6
    rw [List.nil_append] at hown6
    have HB7 : Hid (Below W1.heap.size W1 w6) := HB4.out.trans ⟨hg6.os, hg6.tape, hg6.output, hg6.size, fun x hx => hg6.block x (Nat.lt_of_lt_of_le hx HB4.out.size) (fun e => by have := (OwnN.lt HN4.out e).1; omega)⟩
    have HN7 := Lib.hid hown6
    have HZ7 : Hid (w6.heap[X.heap.size]? = some (.cells Z4 28 (0, 0))) := hg6.row HZ4.out (fun e => by have hx2 : some (X.alloc (.cells Z4 28)).heap.size = some X.heap.size := e; injection hx2 with hx2; have hx3 : (X.alloc (.cells Z4 28)).heap.size = X.heap.size + 1 := (by simp); omega)
    clear hown6 hg6 hnx6
    refine hK.out _ _ HB7.out (fun hHeld => ?_)
    clear hK K
    try simp only [List.getElem_toArray, List.getElem_cons_succ, List.getElem_cons_zero, Act.put, List.setIfInBounds_toArray, List.set_cons_zero, List.set_cons_succ]
    refine wpAnyH_take (i := 8) (v := Value.agg #[.int .i64 k, .string t, .slice no' ns.length nc', .slice none 0 0]) rfl (by kernel_rfl) (by kernel_rfl) (by kernel_rfl) (fun _ _ _ h => h) (Or.inl ⟨rfl, fun w' hw' => ?_⟩) hHeld ?_
    · go_simp
    simp only [List.getElem_toArray, List.getElem_cons_succ, List.getElem_cons_zero, Act.put, List.setIfInBounds_toArray, List.set_cons_zero, List.set_cons_succ]
    obtain ⟨x1, x2, x3, hgeb, hap⟩ := nt_start (k := k) (t := t) HB7.out HZ7.out hge8 HN7.out
    have HXB := Lib.hid x1
    have HXN := Lib.hid x2
    have HE0 := Lib.hid x3
    have hone : (#[.int .i64 k, .string t, .slice no' ns.length nc', .slice none 0 0] : Array Value).all (·.oneCell') = true := by simp [Value.oneCell']
    clear x1 x2 x3
    refine wpAnyH_ready (rs := [10]) (by kernel_rfl) (by simp) ?_
    refine (AllReadyH.cons rfl (fun K hK => ?_) AllReadyH.nil)
    refine wp_store_row 28 _ _ rfl (X.heap.size) #[.int .i64 k, .string t, .slice no' ns.length nc', .slice none 0 0] (by go_simp) rfl 28 Z4 HZ7.out info28 rfl hone ?_
    refine hK.out _ _ HXB.out (fun hHeld => ?_)
    clear hK K
    try simp only [List.getElem_toArray, List.getElem_cons_succ, List.getElem_cons_zero, Act.put, List.setIfInBounds_toArray, List.set_cons_zero, List.set_cons_succ]
    refine wpAnyH_done (by kernel_rfl) ?_ _
    refine NoPanic.normal ?_
    clear hHeld
    generalize w6.setRow (X.heap.size) #[.int .i64 k, .string t, .slice no' ns.length nc', .slice none 0 0] = W0 at HXB HXN HE0 hgeb ⊢
    generalize X.heap.size = ge at HE0 hgeb hge8 hap ⊢
    have HAP := Lib.hid hap
    clear hap hone
    have hneg : ge ≠ g := by omega
    have HN0 := Lib.hid (HN1.out.below HXB.out)
    have HG0 : Hid (W0.heap[gs]? = some (.cells #[.int .i64 k, .string t, .slice no ns.length nc, .slice ao a.length ac] 28 (0, 0))) := row_below HXB.out HRW.out
    go_wp2_with (refine wpList_load_row rfl 28 _ rfl gs rfl 28 #[.int .i64 k, .string t, .slice no ns.length nc, .slice ao a.length ac] (0, 0) _ HG0.out Tryd.underlying28 rfl info28 ?_)
    refine (HLZ.out _).mono ?_
    rintro r W2 ⟨rfl, hb2⟩
    replace HXB := Lib.hid (HXB.out.trans (hb2.mono HXB.out.size))
    replace HXN := Lib.hid (HXN.out.below hb2)
    replace HE0 : Hid (EB W2 ge k t (.slice no' ns.length nc') (.slice none 0 0)) := row_below hb2 HE0.out
    replace HN0 := Lib.hid (HN0.out.below hb2)
    replace hgeb : ge < W2.heap.size := Nat.lt_of_lt_of_le hgeb hb2.size
    clear hb2 HG0 HLZ
    have hW01 : W1.heap.size ≤ W2.heap.size := HXB.out.size
    have hgW2 : g < W2.heap.size := by omega
    go_wp2_with fail
    go_loopw [7, 8, 9] (fun nmv vv iv wr => RLoop W2 g ge k t (.slice no' ns.length nc') a n nmv vv iv wr) (fun _ _ iv _ => a.length - (intOf iv).toNat)
    case atStart => exact RLoop.zero HE0.out HN0.out
    case round =>
      obtain ⟨j, av, hj, rfl, M⟩ := hrel
      have HSN := Lib.hid (fun e => nrms_snoc k t e (a.take j) n 0)
      have hcn := HCN.out j
      have hml := nrms_len k t (a.take j) n 0
      rw [List.length_take, Nat.min_eq_left hj] at hml
      have hvl0 := vals_len k t (a.take j) n 0
      rw [List.length_take, Nat.min_eq_left hj] at hvl0
      obtain ⟨made, hmade⟩ : ∃ x, x = (Et.nrms k t n 0 (a.take j)).2.1 := ⟨_, rfl⟩
      obtain ⟨ps, hps⟩ : ∃ x, x = (Et.nrms k t n 0 (a.take j)).2.2 := ⟨_, rfl⟩
      obtain ⟨m, hm⟩ : ∃ x, x = (Et.nrms k t n 0 (a.take j)).1 := ⟨_, rfl⟩
      rw [← hmade] at M hml
      rw [← hps] at M hvl0
      rw [← hm] at M hcn
      obtain ⟨nms, hnms⟩ : ∃ x, x = ps.map (·.1) := ⟨_, rfl⟩
      obtain ⟨vals, hvals⟩ : ∃ x, x = ps.map (·.2) := ⟨_, rfl⟩
      rw [← hnms, ← hvals] at M
      have hnl1 : nms.length = ps.length := by rw [hnms, List.length_map]
      have hvl1 : vals.length = ps.length := by rw [hvals, List.length_map]
      obtain ⟨ao5, ac5, hav⟩ := M.own.form
      obtain ⟨vo, vc, hvv⟩ := M.val.form
      obtain ⟨mo, mc, hmv⟩ := own_form M.nam
      obtain ⟨np, hnp⟩ : ∃ np, made.length = np := ⟨_, rfl⟩
      obtain ⟨nvv, hnvv⟩ : ∃ np, vals.length = np := ⟨_, rfl⟩
      obtain ⟨nm, hnm⟩ : ∃ np, nms.length = np := ⟨_, rfl⟩
      rw [hnp] at hav hml
      rw [hnvv] at hvv hvl1
      rw [hnm] at hmv hnl1
      subst hav hvv hmv
      have hs0 := M.but.size
      have hB1 : But W1.heap.size g W1 wr := (But.of HXB.out : But W1.heap.size g W1 W2).trans (M.but.to hW01 hge8)
      have HB1r := Lib.hid hB1
      have HA := Lib.hid (AAt.keeps HL.out (hB1.keeps fun x hx => hx.2))
      have HGS : Hid (EB wr gs k t (.slice no ns.length nc) (.slice ao a.length ac)) := by
        show EB _ _ _ _ _ _
        unfold EB
        rw [hB1.block gs hgs1 hggs]; exact HRW.out
      have HMI := Lib.hid M
      have HNPL := Lib.hid hnp
      have HNVL := Lib.hid hnvv
      have HNML := Lib.hid hnm
      have HMD := Lib.hid hmade
      have HPS := Lib.hid hps
      have HMM := Lib.hid hm
      have HNS := Lib.hid hnms
      have HVS := Lib.hid hvals
      have hml2 : np + 1 ≤ 1000000000 := by omega
      have hnm5 : nm ≤ 100000 := by omega
      have hnms5 : nms.length ≤ 100000 := by omega
      have hnvv5 : nvv ≤ 100000 := by omega
      have hnmv : nm = nvv := by omega
      have HNV := Lib.hid hnmv
      have hpl5 := hnl1
      have HPL := Lib.hid hpl5
      clear M hmade hps hm hnms hvals hnp hnvv hnm hB1 hml hvl0 hnl1 hvl1 hnmv hpl5
      obtain ⟨-, -, -, cs3⟩ := EB.cell _ _ _ _ _ _ HGS.out
      by_cases hlt : j < a.length
      · have q1 : decide ((j : Int) < (a.length : Int)) = true := decide_eq_true (by omega)
        obtain ⟨g4, o4, k', t', mv', lv', rfl, -, -, hati, e0, e1, e2, e3, o1', o2'⟩ := HA.out.get j hlt
        have htk := HTK.out j hlt
        have HC := Lib.hid (IH.out a[j] (List.getElem_mem hlt) _ _ _ g m hati HMI.out.cn (by omega))
        clear hati
        go_wp2_with fail
        refine HC.out.mono ?_
        rintro r w7 ⟨cs7, rfl, hat7, hnk7, hbut7⟩
        obtain ⟨k5, t5, no5, nn5, nc5, ao6, an6, ac6, rfl⟩ := EAt_sl hat7
        have z5 : (#[.int .i64 k5, .string t5, .slice no5 nn5 nc5, .slice ao6 an6 ac6] : Array Value).all (·.oneCell') = true := by simp [Value.oneCell']
        obtain ⟨x5, hx5⟩ : ∃ x5, x5 = (a[j].nrm m).2 := ⟨_, rfl⟩
        obtain ⟨m5, hm5⟩ : ∃ m5, m5 = (a[j].nrm m).1 := ⟨_, rfl⟩
        rw [← hx5] at hat7
        rw [← hm5] at hnk7
        have hmc : m5 = m + a[j].thick := by rw [hm5]; exact (nrm_f a[j] m).cnt
        have HX5 := Lib.hid hx5
        have HM5 := Lib.hid hm5
        have HMID := Lib.hid (RMid.of HMI.out hgW2 hgeb hneg hbut7 hnk7 hat7)
        have hm100 : m5 ≤ 100000 := by omega
        clear hat7 hnk7 hbut7 hx5 hm5 hmc HC htk e0 e1 e2 e3 cs3
        go_upto_region 9 with (refine wpList_store_row rfl 28 _ _ rfl w7.heap.size #[.int .i64 k5, .string t5, .slice no5 nn5 nc5, .slice ao6 an6 ac6] rfl rfl 28 Z4 (alloc_at _ _) info28 rfl z5 ?_)
        try simp only [Act.put]
        have EE : (w7.alloc (.cells #[.int .i64 0, .string ⟨#[]⟩, .slice none 0 0, .slice none 0 0] 28)).setRow w7.heap.size #[.int .i64 k5, .string t5, .slice no5 nn5 nc5, .slice ao6 an6 ac6] = w7.alloc (.cells #[.int .i64 k5, .string t5, .slice no5 nn5 nc5, .slice ao6 an6 ac6] 28) := setRow_new _ _ _ _
        try rw [EE]
        clear EE z5
        generalize w7.alloc (.cells #[.int .i64 k5, .string t5, .slice no5 nn5 nc5, .slice ao6 an6 ac6] 28) = w8 at HMID ⊢
        generalize w7.heap.size = p9 at HMID ⊢
        have HSJ := Lib.hid (HLS.out j)
        have hr8 : w8.heap[p9]? = some (.cells #[.int .i64 k5, .string t5, .slice no5 nn5 nc5, .slice ao6 an6 ac6] 28 (0, 0)) := HMID.out.row
        have HR8 := Lib.hid hr8
        have HNL := Lib.hid (show Calls Tryd.prog 37 #[.agg #[.int .i64 k5, .string t5, .slice no5 nn5 nc5, .slice ao6 an6 ac6]] w8 (RetBool x5.atom w8) from atom_tells x5 _ _ w8 HMID.out.part)
        have HREL : Hid (∀ wz av' vv' nm' q, (Et.nrms k t n 0 (a.take (j + 1))) = q → RInv W2 g ge k t (.slice no' ns.length nc') wz av' vv' nm' q.2.1 (q.2.2.map (·.2)) (q.2.2.map (·.1)) q.1 → RLoop W2 g ge k t (.slice no' ns.length nc') a n nm' vv' (.int .i64 ((j : Int) + 1)) wz) := by
          show ∀ wz av' vv' nm' q, _ → _
          intro wz av' vv' nm' q hq h
          subst hq
          exact ⟨j + 1, av', by omega, by go_num, h⟩
        clear hr8
        by_cases hz0 : 0 ≤ z
        · have p0 : decide (0 ≤ z) = true := decide_eq_true hz0
          by_cases hzj : z ≤ (j : Int)
          · have p1 : decide (z ≤ (j : Int)) = true := decide_eq_true hzj
            have hs2 : slot k t (0 + (a.take j).length) = true := by rw [List.length_take, Nat.min_eq_left hj, Nat.zero_add, HSJ.out, p0, p1]; rfl
            obtain ⟨b, hb⟩ : ∃ b, x5.atom = b := ⟨_, rfl⟩
            rw [hb] at HNL
            go_wp2_with (first | (refine wpList_load_row rfl 28 _ rfl p9 rfl 28 #[.int .i64 k5, .string t5, .slice no5 nn5 nc5, .slice ao6 an6 ac6] (0, 0) _ HR8.out Tryd.underlying28 rfl info28 ?_) | (refine wpList_load_wanted (by rfl) 28 _ rfl p9 rfl 28 #[.int .i64 k5, .string t5, .slice no5 nn5 nc5, .slice ao6 an6 ac6] (0, 0) _ HR8.out Tryd.underlying28 rfl info28 ?_))
            refine HNL.out.mono ?_
            rintro r u8 ⟨rfl, hb8⟩
            replace HMID := Lib.hid (HMID.out.below hgW2 hneg hb8)
            clear hb8 HNL HR8
            cases b
            · have hsn := HSN.out a[j]
              rw [← take_snoc_et a j hlt, ← HMM.out, ← HMD.out, ← HPS.out, ← HX5.out, ← HM5.out, hs2, hb] at hsn
              have HSN2 : Hid (Et.nrms k t n 0 (a.take (j + 1)) = (m5 + 1, made ++ [evar (pn (m5 + 1))], ps ++ [(pn (m5 + 1), x5)])) := hsn
              clear hsn HSN
              clear hb hs2
              have HNX := Lib.hid (rnext_any g m5 u8 HMID.out.cn hm100)
              go_wp2_with fail
              refine HNX.out.mono ?_
              rintro r u9 ⟨rfl, hnk9, hbut9⟩
              have HMID2 := Lib.hid (HMID.out.but2 hgW2 hneg hbut9 hnk9)
              obtain ⟨pnm, hpn⟩ : ∃ x, x = pn (m5 + 1) := ⟨_, rfl⟩
              rw [← hpn] at HSN2 ⊢
              clear hnk9 hbut9 HNX HMID hpn
              go_upto_region 11 with fail
              have HM0 := Lib.hid (HMID2.out.below hgW2 hneg (w' := u9.drew) ((Below.refl _ _).drew))
              have HS0 : Hid (EB u9.drew p9 k5 t5 (.slice no5 nn5 nc5) (.slice ao6 an6 ac6)) := HM0.out.row
              clear HMID2
              refine wp_region_noPanic ?_
              refine wp_region_held_drew (S := fun w' => EB w' p9 k5 t5 (.slice no5 nn5 nc5) (.slice ao6 an6 ac6)) (by kernel_rfl) HS0.out (fun hHeld => ?_)
              generalize u9.drew = X9 at HS0 HM0 hHeld ⊢
              refine wpAnyH_take (i := 0) (v := Value.slice mo nm mc) rfl (by kernel_rfl) (by kernel_rfl) (by kernel_rfl) (fun _ _ _ h => h) (Or.inl ⟨rfl, fun w' hw' => ?_⟩) hHeld ?_
              · go_simp
              simp only [List.getElem_toArray, List.getElem_cons_succ, List.getElem_cons_zero, Act.put, List.setIfInBounds_toArray, List.set_cons_zero, List.set_cons_succ]
              refine wpAnyH_take (i := 1) (v := Value.string pnm) rfl (by kernel_rfl) (by kernel_rfl) (by kernel_rfl) (fun _ _ _ h => h) (Or.inl ⟨rfl, fun w' hw' => ?_⟩) hHeld ?_
              · go_simp
              simp only [List.getElem_toArray, List.getElem_cons_succ, List.getElem_cons_zero, Act.put, List.setIfInBounds_toArray, List.set_cons_zero, List.set_cons_succ]
              refine wpAnyH_take (i := 4) (v := Value.slice vo nvv vc) rfl (by kernel_rfl) (by kernel_rfl) (by kernel_rfl) (fun _ _ _ h => h) (Or.inl ⟨rfl, fun w' hw' => ?_⟩) hHeld ?_
              · go_simp
              simp only [List.getElem_toArray, List.getElem_cons_succ, List.getElem_cons_zero, Act.put, List.setIfInBounds_toArray, List.set_cons_zero, List.set_cons_succ]
              refine wpAnyH_take (i := 5) (v := Value.agg #[.int .i64 k5, .string t5, .slice no5 nn5 nc5, .slice ao6 an6 ac6]) rfl (by kernel_rfl) (by kernel_rfl) (by kernel_rfl) (fun _ _ _ h => h) (Or.inl ⟨rfl, fun w' hw' => ?_⟩) hHeld ?_
              · obtain ⟨d0, d1, d2, d3⟩ := EB.cell _ _ _ _ _ _ hw'; go_simp
              simp only [List.getElem_toArray, List.getElem_cons_succ, List.getElem_cons_zero, Act.put, List.setIfInBounds_toArray, List.set_cons_zero, List.set_cons_succ]
              refine wpAnyH_ready (rs := [2, 6]) (by kernel_rfl) (by simp) ?_
              refine (AllReadyH.cons rfl (fun K hK => ?_) (AllReadyH.cons rfl (fun K hK => ?_) AllReadyH.nil))
              · skip
                have HM2 := Lib.hid (HM0.out.below hgW2 hneg (w' := X9.alloc (.cells #[.string pnm] 9)) ((Below.refl _ _).alloc (Nat.le_refl _) _))
                have HS2 : Hid (EB (X9.alloc (.cells #[.string pnm] 9)) p9 k5 t5 (.slice no5 nn5 nc5) (.slice ao6 an6 ac6)) := HM2.out.row
                have HNT := Lib.hid (one_name X9 pnm)
                go_simp
                refine hK.out _ _ HS2.out (fun hHeld => ?_)
                clear hK K
                try simp only [List.getElem_toArray, List.getElem_cons_succ, List.getElem_cons_zero, Act.put, List.setIfInBounds_toArray, List.set_cons_zero, List.set_cons_succ]
                refine wpAnyH_ready (rs := [3, 6]) (by kernel_rfl) (by simp) ?_
                refine (AllReadyH.cons rfl (fun K hK => ?_) (AllReadyH.cons rfl (fun K hK => ?_) AllReadyH.nil))
                · skip
                  refine wp_appNr (Operand.tmp 52) (Operand.tmp 54) rfl W2.heap.size (.slice mo nm mc) nms rfl HM2.out.nam (.slice (some ⟨X9.heap.size, 0, none⟩) 1 1) [pnm] (by go_simp) HNT.out (by simp; omega) HM2.out.but.size rfl ?_
                  intro nm' u3 hn3 hg3 hx3
                  obtain ⟨mo', mc', hvn⟩ := own_form hn3
                  rw [List.length_append, HNML.out] at hvn
                  subst hvn
                  have HM3 := Lib.hid (HM2.out.name hgW2 hgeb pnm hn3 hg3 hx3)
                  have HS3 : Hid (EB u3 p9 k5 t5 (.slice no5 nn5 nc5) (.slice ao6 an6 ac6)) := HM3.out.row
                  clear hn3 hg3 hx3
                  refine hK.out _ _ HS3.out (fun hHeld => ?_)
                  clear hK K
                  try simp only [List.getElem_toArray, List.getElem_cons_succ, List.getElem_cons_zero, Act.put, List.setIfInBounds_toArray, List.set_cons_zero, List.set_cons_succ]
                  refine wpAnyH_ready (rs := [6]) (by kernel_rfl) (by simp) ?_
                  refine (AllReadyH.cons rfl (fun K hK => ?_) AllReadyH.nil)
                  skip
                  have HM6 := Lib.hid (HM3.out.below hgW2 hneg (w' := u3.alloc (.cells #[.int .i64 k5, .string t5, .slice no5 nn5 nc5, .slice ao6 an6 ac6] 28)) ((Below.refl _ _).alloc (Nat.le_refl _) _))
                  have HS6 : Hid (EB (u3.alloc (.cells #[.int .i64 k5, .string t5, .slice no5 nn5 nc5, .slice ao6 an6 ac6] 28)) p9 k5 t5 (.slice no5 nn5 nc5) (.slice ao6 an6 ac6)) := HM6.out.row
                  have HR6 : Hid ((u3.alloc (.cells #[.int .i64 k5, .string t5, .slice no5 nn5 nc5, .slice ao6 an6 ac6] 28)).heap[u3.heap.size]? = some (.cells #[.int .i64 k5, .string t5, .slice no5 nn5 nc5, .slice ao6 an6 ac6] 28 (0, 0))) := alloc_at _ _
                  go_simp
                  refine hK.out _ _ HS6.out (fun hHeld => ?_)
                  clear hK K
                  try simp only [List.getElem_toArray, List.getElem_cons_succ, List.getElem_cons_zero, Act.put, List.setIfInBounds_toArray, List.set_cons_zero, List.set_cons_succ]
                  refine wpAnyH_ready (rs := [7]) (by kernel_rfl) (by simp) ?_
                  refine (AllReadyH.cons rfl (fun K hK => ?_) AllReadyH.nil)
                  obtain ⟨xsv, hov, hBv, hpush⟩ := HM6.out.value hgW2 hgeb hneg rfl
                  rw [HNVL.out] at hov hpush
                  refine wp_appT (Operand.tmp 56) (Operand.tmp 58) rfl W2.heap.size (.slice vo nvv vc) nvv xsv rfl hov (u3.heap.size) 1 (by go_simp) (#[.int .i64 k5, .string t5, .slice no5 nn5 nc5, .slice ao6 an6 ac6] : Array Value).toList rfl (fun i u hu => by rw [Lib.cell_of_heap HR6.out]; simpa using hu) (by intro u hu; simp at hu; rcases hu with rfl | rfl | rfl | rfl <;> rfl) (by omega) hBv ?_
                  intro vv' u7 hn7 hg7 hv7
                  obtain ⟨vo', vc', rfl⟩ := own_form hn7
                  have HM7 := Lib.hid (hpush _ _ hn7 hg7 hv7)
                  have HS7 : Hid (EB u7 p9 k5 t5 (.slice no5 nn5 nc5) (.slice ao6 an6 ac6)) := HM7.out.row
                  clear hn7 hg7 hv7 hov hpush
                  refine hK.out _ _ HS7.out (fun hHeld => ?_)
                  clear hK K
                  try simp only [List.getElem_toArray, List.getElem_cons_succ, List.getElem_cons_zero, Act.put, List.setIfInBounds_toArray, List.set_cons_zero, List.set_cons_succ]
                  refine wpAnyH_take (i := 8) (v := Value.slice mo' (nm + 1) mc') rfl (by kernel_rfl) (by kernel_rfl) (by kernel_rfl) (fun _ _ _ h => h) (Or.inl ⟨rfl, fun w' hw' => ?_⟩) hHeld ?_
                  · go_simp
                  simp only [List.getElem_toArray, List.getElem_cons_succ, List.getElem_cons_zero, Act.put, List.setIfInBounds_toArray, List.set_cons_zero, List.set_cons_succ]
                  refine wpAnyH_take (i := 9) (v := Value.slice vo' (nvv + 1) vc') rfl (by kernel_rfl) (by kernel_rfl) (by kernel_rfl) (fun _ _ _ h => h) (Or.inl ⟨rfl, fun w' hw' => ?_⟩) hHeld ?_
                  · go_simp
                  simp only [List.getElem_toArray, List.getElem_cons_succ, List.getElem_cons_zero, Act.put, List.setIfInBounds_toArray, List.set_cons_zero, List.set_cons_succ]
                  refine wpAnyH_done (by kernel_rfl) ?_ _
                  refine NoPanic.normal ?_
                  clear hHeld

                  go_wp2_with fail
                  refine (var_any pnm u7).mono ?_
                  rintro r u12 ⟨rfl, hb12⟩
                  have HM12 := Lib.hid (HM7.out.below hgW2 hneg hb12)
                  have hr12 : u12.heap[p9]? = some (.cells #[.int .i64 k5, .string t5, .slice no5 nn5 nc5, .slice ao6 an6 ac6] 28 (0, 0)) := HM12.out.row
                  have HR12 := Lib.hid hr12
                  have zv : (#[.int .i64 5, .string pnm, .slice none 0 0, .slice none 0 0] : Array Value).all (·.oneCell') = true := by simp [Value.oneCell']
                  have HMID := Lib.hid (HM12.out.setP hgW2 hgeb pnm)
                  have hmp1 : nms ++ [pnm] = (ps ++ [(pnm, x5)]).map (·.1) := by rw [List.map_append, ← HNS.out]; rfl
                  have hmp2 : vals ++ [x5] = (ps ++ [(pnm, x5)]).map (·.2) := by rw [List.map_append, ← HVS.out]; rfl
                  rw [hmp1, hmp2] at HMID
                  clear hb12 hr12 HM12 hmp1 hmp2
                  go_upto_region 13 with (refine wpList_store_row rfl 28 _ _ rfl p9 #[.int .i64 5, .string pnm, .slice none 0 0, .slice none 0 0] rfl rfl 28 _ HR12.out info28 rfl zv ?_)
                  try simp only [Act.put]
                  generalize u12.setRow p9 #[.int .i64 5, .string pnm, .slice none 0 0, .slice none 0 0] = w12 at HMID ⊢
                  clear HR12 zv
                  obtain ⟨xs, hx8, hB8, c3, hc9⟩ := HMID.out.app hgW2 hgeb hneg rfl
                  rw [HNPL.out] at hx8 hc9
                  have HX8 := Lib.hid hx8
                  have HC9 := Lib.hid hc9
                  have hr8 : w12.heap[p9]? = some (.cells #[.int .i64 5, .string pnm, .slice none 0 0, .slice none 0 0] 28 (0, 0)) := HMID.out.row
                  obtain ⟨f0, f1, f2, f3⟩ := EB.cell _ _ _ _ _ _ (show EB w12 p9 _ _ _ _ from hr8)
                  have c3' : w12.cell? ⟨ge, 3, none⟩ = some (.slice ao5 np ac5) := (EB.cell _ _ _ _ _ _ HMID.out.eb).2.2.2
                  clear hx8 hc9 hr8 HMID
                  go_wp2_with (at_builtin; refine wpList_app rfl (Operand.tmp 63) (Operand.tmp 65) rfl W2.heap.size (.slice ao5 np ac5) np xs rfl HX8.out w12.heap.size 1 rfl (#[.int .i64 5, .string pnm, .slice none 0 0, .slice none 0 0] : Array Value).toList rfl (row_cellsT _ 28 _) (by intro u hu; simp at hu; rcases hu with rfl | rfl | rfl | rfl <;> rfl) hml2 hB8 ?_; intro av' w9 hown9 hg9 hv9; obtain ⟨ao', ac', rfl⟩ := own_form hown9; obtain ⟨c9, f9, hrest9⟩ := HC9.out _ _ hown9 hg9 hv9; have HRE := Lib.hid hrest9; clear hrest9 hown9 hg9 hv9)
                  go_roundw
                  case rel => exact HREL.out _ _ _ _ _ HSN2.out HRE.out
                  case measure => simp [intOf]; omega
                · skip
                  have hlt6 : ∀ x, (Value.slice mo nm mc).ownBlock = some x → x < (X9.alloc (.cells #[.string pnm] 9)).heap.size := fun x hx => (HM2.out.nam.lt hx).2
                  have HM6 := Lib.hid (HM2.out.below hgW2 hneg (w' := (X9.alloc (.cells #[.string pnm] 9)).alloc (.cells #[.int .i64 k5, .string t5, .slice no5 nn5 nc5, .slice ao6 an6 ac6] 28)) ((Below.refl _ _).alloc (Nat.le_refl _) _))
                  have HS6 : Hid (EB ((X9.alloc (.cells #[.string pnm] 9)).alloc (.cells #[.int .i64 k5, .string t5, .slice no5 nn5 nc5, .slice ao6 an6 ac6] 28)) p9 k5 t5 (.slice no5 nn5 nc5) (.slice ao6 an6 ac6)) := HM6.out.row
                  have HR6 : Hid (((X9.alloc (.cells #[.string pnm] 9)).alloc (.cells #[.int .i64 k5, .string t5, .slice no5 nn5 nc5, .slice ao6 an6 ac6] 28)).heap[(X9.alloc (.cells #[.string pnm] 9)).heap.size]? = some (.cells #[.int .i64 k5, .string t5, .slice no5 nn5 nc5, .slice ao6 an6 ac6] 28 (0, 0))) := alloc_at _ _
                  have HNT6 := Lib.hid (HNT.out.keeps (Keeps.of_below (w' := (X9.alloc (.cells #[.string pnm] 9)).alloc (.cells #[.int .i64 k5, .string t5, .slice no5 nn5 nc5, .slice ao6 an6 ac6] 28)) ((Below.refl _ _).alloc (Nat.le_refl _) _)))
                  go_simp
                  refine hK.out _ _ HS6.out (fun hHeld => ?_)
                  clear hK K
                  try simp only [List.getElem_toArray, List.getElem_cons_succ, List.getElem_cons_zero, Act.put, List.setIfInBounds_toArray, List.set_cons_zero, List.set_cons_succ]
                  refine wpAnyH_ready (rs := [3]) (by kernel_rfl) (by simp) ?_
                  refine (AllReadyH.cons rfl (fun K hK => ?_) AllReadyH.nil)
                  refine wp_appNr (Operand.tmp 52) (Operand.tmp 54) rfl W2.heap.size (.slice mo nm mc) nms rfl HM6.out.nam (.slice (some ⟨X9.heap.size, 0, none⟩) 1 1) [pnm] (by go_simp) HNT6.out (by simp; omega) HM6.out.but.size rfl ?_
                  intro nm' u3 hn3 hg3 hx3
                  obtain ⟨mo', mc', hvn⟩ := own_form hn3
                  rw [List.length_append, HNML.out] at hvn
                  subst hvn
                  have HM3 := Lib.hid (HM6.out.name hgW2 hgeb pnm hn3 hg3 hx3)
                  have HS3 : Hid (EB u3 p9 k5 t5 (.slice no5 nn5 nc5) (.slice ao6 an6 ac6)) := HM3.out.row
                  have HR3 : Hid (u3.heap[(X9.alloc (.cells #[.string pnm] 9)).heap.size]? = some (.cells #[.int .i64 k5, .string t5, .slice no5 nn5 nc5, .slice ao6 an6 ac6] 28 (0, 0))) := hg3.row HR6.out (fun e => by have := hlt6 _ e; omega)
                  clear hn3 hg3 hx3
                  refine hK.out _ _ HS3.out (fun hHeld => ?_)
                  clear hK K
                  try simp only [List.getElem_toArray, List.getElem_cons_succ, List.getElem_cons_zero, Act.put, List.setIfInBounds_toArray, List.set_cons_zero, List.set_cons_succ]
                  refine wpAnyH_ready (rs := [7]) (by kernel_rfl) (by simp) ?_
                  refine (AllReadyH.cons rfl (fun K hK => ?_) AllReadyH.nil)
                  obtain ⟨xsv, hov, hBv, hpush⟩ := HM3.out.value hgW2 hgeb hneg rfl
                  rw [HNVL.out] at hov hpush
                  refine wp_appT (Operand.tmp 56) (Operand.tmp 58) rfl W2.heap.size (.slice vo nvv vc) nvv xsv rfl hov ((X9.alloc (.cells #[.string pnm] 9)).heap.size) 1 (by go_simp) (#[.int .i64 k5, .string t5, .slice no5 nn5 nc5, .slice ao6 an6 ac6] : Array Value).toList rfl (fun i u hu => by rw [Lib.cell_of_heap HR3.out]; simpa using hu) (by intro u hu; simp at hu; rcases hu with rfl | rfl | rfl | rfl <;> rfl) (by omega) hBv ?_
                  intro vv' u7 hn7 hg7 hv7
                  obtain ⟨vo', vc', rfl⟩ := own_form hn7
                  have HM7 := Lib.hid (hpush _ _ hn7 hg7 hv7)
                  have HS7 : Hid (EB u7 p9 k5 t5 (.slice no5 nn5 nc5) (.slice ao6 an6 ac6)) := HM7.out.row
                  clear hn7 hg7 hv7 hov hpush
                  refine hK.out _ _ HS7.out (fun hHeld => ?_)
                  clear hK K
                  try simp only [List.getElem_toArray, List.getElem_cons_succ, List.getElem_cons_zero, Act.put, List.setIfInBounds_toArray, List.set_cons_zero, List.set_cons_succ]
                  refine wpAnyH_take (i := 8) (v := Value.slice mo' (nm + 1) mc') rfl (by kernel_rfl) (by kernel_rfl) (by kernel_rfl) (fun _ _ _ h => h) (Or.inl ⟨rfl, fun w' hw' => ?_⟩) hHeld ?_
                  · go_simp
                  simp only [List.getElem_toArray, List.getElem_cons_succ, List.getElem_cons_zero, Act.put, List.setIfInBounds_toArray, List.set_cons_zero, List.set_cons_succ]
                  refine wpAnyH_take (i := 9) (v := Value.slice vo' (nvv + 1) vc') rfl (by kernel_rfl) (by kernel_rfl) (by kernel_rfl) (fun _ _ _ h => h) (Or.inl ⟨rfl, fun w' hw' => ?_⟩) hHeld ?_
                  · go_simp
                  simp only [List.getElem_toArray, List.getElem_cons_succ, List.getElem_cons_zero, Act.put, List.setIfInBounds_toArray, List.set_cons_zero, List.set_cons_succ]
                  refine wpAnyH_done (by kernel_rfl) ?_ _
                  refine NoPanic.normal ?_
                  clear hHeld

                  go_wp2_with fail
                  refine (var_any pnm u7).mono ?_
                  rintro r u12 ⟨rfl, hb12⟩
                  have HM12 := Lib.hid (HM7.out.below hgW2 hneg hb12)
                  have hr12 : u12.heap[p9]? = some (.cells #[.int .i64 k5, .string t5, .slice no5 nn5 nc5, .slice ao6 an6 ac6] 28 (0, 0)) := HM12.out.row
                  have HR12 := Lib.hid hr12
                  have zv : (#[.int .i64 5, .string pnm, .slice none 0 0, .slice none 0 0] : Array Value).all (·.oneCell') = true := by simp [Value.oneCell']
                  have HMID := Lib.hid (HM12.out.setP hgW2 hgeb pnm)
                  have hmp1 : nms ++ [pnm] = (ps ++ [(pnm, x5)]).map (·.1) := by rw [List.map_append, ← HNS.out]; rfl
                  have hmp2 : vals ++ [x5] = (ps ++ [(pnm, x5)]).map (·.2) := by rw [List.map_append, ← HVS.out]; rfl
                  rw [hmp1, hmp2] at HMID
                  clear hb12 hr12 HM12 hmp1 hmp2
                  go_upto_region 13 with (refine wpList_store_row rfl 28 _ _ rfl p9 #[.int .i64 5, .string pnm, .slice none 0 0, .slice none 0 0] rfl rfl 28 _ HR12.out info28 rfl zv ?_)
                  try simp only [Act.put]
                  generalize u12.setRow p9 #[.int .i64 5, .string pnm, .slice none 0 0, .slice none 0 0] = w12 at HMID ⊢
                  clear HR12 zv
                  obtain ⟨xs, hx8, hB8, c3, hc9⟩ := HMID.out.app hgW2 hgeb hneg rfl
                  rw [HNPL.out] at hx8 hc9
                  have HX8 := Lib.hid hx8
                  have HC9 := Lib.hid hc9
                  have hr8 : w12.heap[p9]? = some (.cells #[.int .i64 5, .string pnm, .slice none 0 0, .slice none 0 0] 28 (0, 0)) := HMID.out.row
                  obtain ⟨f0, f1, f2, f3⟩ := EB.cell _ _ _ _ _ _ (show EB w12 p9 _ _ _ _ from hr8)
                  have c3' : w12.cell? ⟨ge, 3, none⟩ = some (.slice ao5 np ac5) := (EB.cell _ _ _ _ _ _ HMID.out.eb).2.2.2
                  clear hx8 hc9 hr8 HMID
                  go_wp2_with (at_builtin; refine wpList_app rfl (Operand.tmp 63) (Operand.tmp 65) rfl W2.heap.size (.slice ao5 np ac5) np xs rfl HX8.out w12.heap.size 1 rfl (#[.int .i64 5, .string pnm, .slice none 0 0, .slice none 0 0] : Array Value).toList rfl (row_cellsT _ 28 _) (by intro u hu; simp at hu; rcases hu with rfl | rfl | rfl | rfl <;> rfl) hml2 hB8 ?_; intro av' w9 hown9 hg9 hv9; obtain ⟨ao', ac', rfl⟩ := own_form hown9; obtain ⟨c9, f9, hrest9⟩ := HC9.out _ _ hown9 hg9 hv9; have HRE := Lib.hid hrest9; clear hrest9 hown9 hg9 hv9)
                  go_roundw
                  case rel => exact HREL.out _ _ _ _ _ HSN2.out HRE.out
                  case measure => simp [intOf]; omega
              · skip
                have hlt6 : ∀ x, (Value.slice mo nm mc).ownBlock = some x → x < X9.heap.size := fun x hx => (HM0.out.nam.lt hx).2
                have HM6 := Lib.hid (HM0.out.below hgW2 hneg (w' := X9.alloc (.cells #[.int .i64 k5, .string t5, .slice no5 nn5 nc5, .slice ao6 an6 ac6] 28)) ((Below.refl _ _).alloc (Nat.le_refl _) _))
                have HS6 : Hid (EB (X9.alloc (.cells #[.int .i64 k5, .string t5, .slice no5 nn5 nc5, .slice ao6 an6 ac6] 28)) p9 k5 t5 (.slice no5 nn5 nc5) (.slice ao6 an6 ac6)) := HM6.out.row
                have HR6 : Hid ((X9.alloc (.cells #[.int .i64 k5, .string t5, .slice no5 nn5 nc5, .slice ao6 an6 ac6] 28)).heap[X9.heap.size]? = some (.cells #[.int .i64 k5, .string t5, .slice no5 nn5 nc5, .slice ao6 an6 ac6] 28 (0, 0))) := alloc_at _ _
                go_simp
                refine hK.out _ _ HS6.out (fun hHeld => ?_)
                clear hK K
                try simp only [List.getElem_toArray, List.getElem_cons_succ, List.getElem_cons_zero, Act.put, List.setIfInBounds_toArray, List.set_cons_zero, List.set_cons_succ]
                refine wpAnyH_ready (rs := [2]) (by kernel_rfl) (by simp) ?_
                refine (AllReadyH.cons rfl (fun K hK => ?_) AllReadyH.nil)
                have HM2 := Lib.hid (HM6.out.below hgW2 hneg (w' := (X9.alloc (.cells #[.int .i64 k5, .string t5, .slice no5 nn5 nc5, .slice ao6 an6 ac6] 28)).alloc (.cells #[.string pnm] 9)) ((Below.refl _ _).alloc (Nat.le_refl _) _))
                have HS2 : Hid (EB ((X9.alloc (.cells #[.int .i64 k5, .string t5, .slice no5 nn5 nc5, .slice ao6 an6 ac6] 28)).alloc (.cells #[.string pnm] 9)) p9 k5 t5 (.slice no5 nn5 nc5) (.slice ao6 an6 ac6)) := HM2.out.row
                have HNT := Lib.hid (one_name (X9.alloc (.cells #[.int .i64 k5, .string t5, .slice no5 nn5 nc5, .slice ao6 an6 ac6] 28)) pnm)
                have HR2 : Hid (((X9.alloc (.cells #[.int .i64 k5, .string t5, .slice no5 nn5 nc5, .slice ao6 an6 ac6] 28)).alloc (.cells #[.string pnm] 9)).heap[X9.heap.size]? = some (.cells #[.int .i64 k5, .string t5, .slice no5 nn5 nc5, .slice ao6 an6 ac6] 28 (0, 0))) := row_below ((Below.refl _ _).alloc (Nat.le_refl _) _) HR6.out
                go_simp
                refine hK.out _ _ HS2.out (fun hHeld => ?_)
                clear hK K
                try simp only [List.getElem_toArray, List.getElem_cons_succ, List.getElem_cons_zero, Act.put, List.setIfInBounds_toArray, List.set_cons_zero, List.set_cons_succ]
                refine wpAnyH_ready (rs := [3]) (by kernel_rfl) (by simp) ?_
                refine (AllReadyH.cons rfl (fun K hK => ?_) AllReadyH.nil)
                refine wp_appNr (Operand.tmp 52) (Operand.tmp 54) rfl W2.heap.size (.slice mo nm mc) nms rfl HM2.out.nam (.slice (some ⟨(X9.alloc (.cells #[.int .i64 k5, .string t5, .slice no5 nn5 nc5, .slice ao6 an6 ac6] 28)).heap.size, 0, none⟩) 1 1) [pnm] (by go_simp) HNT.out (by simp; omega) HM2.out.but.size rfl ?_
                intro nm' u3 hn3 hg3 hx3
                obtain ⟨mo', mc', hvn⟩ := own_form hn3
                rw [List.length_append, HNML.out] at hvn
                subst hvn
                have HM3 := Lib.hid (HM2.out.name hgW2 hgeb pnm hn3 hg3 hx3)
                have HS3 : Hid (EB u3 p9 k5 t5 (.slice no5 nn5 nc5) (.slice ao6 an6 ac6)) := HM3.out.row
                have HR3 : Hid (u3.heap[X9.heap.size]? = some (.cells #[.int .i64 k5, .string t5, .slice no5 nn5 nc5, .slice ao6 an6 ac6] 28 (0, 0))) := hg3.row HR2.out (fun e => by have := hlt6 _ e; omega)
                clear hn3 hg3 hx3
                refine hK.out _ _ HS3.out (fun hHeld => ?_)
                clear hK K
                try simp only [List.getElem_toArray, List.getElem_cons_succ, List.getElem_cons_zero, Act.put, List.setIfInBounds_toArray, List.set_cons_zero, List.set_cons_succ]
                refine wpAnyH_ready (rs := [7]) (by kernel_rfl) (by simp) ?_
                refine (AllReadyH.cons rfl (fun K hK => ?_) AllReadyH.nil)
                obtain ⟨xsv, hov, hBv, hpush⟩ := HM3.out.value hgW2 hgeb hneg rfl
                rw [HNVL.out] at hov hpush
                refine wp_appT (Operand.tmp 56) (Operand.tmp 58) rfl W2.heap.size (.slice vo nvv vc) nvv xsv rfl hov (X9.heap.size) 1 (by go_simp) (#[.int .i64 k5, .string t5, .slice no5 nn5 nc5, .slice ao6 an6 ac6] : Array Value).toList rfl (fun i u hu => by rw [Lib.cell_of_heap HR3.out]; simpa using hu) (by intro u hu; simp at hu; rcases hu with rfl | rfl | rfl | rfl <;> rfl) (by omega) hBv ?_
                intro vv' u7 hn7 hg7 hv7
                obtain ⟨vo', vc', rfl⟩ := own_form hn7
                have HM7 := Lib.hid (hpush _ _ hn7 hg7 hv7)
                have HS7 : Hid (EB u7 p9 k5 t5 (.slice no5 nn5 nc5) (.slice ao6 an6 ac6)) := HM7.out.row
                clear hn7 hg7 hv7 hov hpush
                refine hK.out _ _ HS7.out (fun hHeld => ?_)
                clear hK K
                try simp only [List.getElem_toArray, List.getElem_cons_succ, List.getElem_cons_zero, Act.put, List.setIfInBounds_toArray, List.set_cons_zero, List.set_cons_succ]
                refine wpAnyH_take (i := 8) (v := Value.slice mo' (nm + 1) mc') rfl (by kernel_rfl) (by kernel_rfl) (by kernel_rfl) (fun _ _ _ h => h) (Or.inl ⟨rfl, fun w' hw' => ?_⟩) hHeld ?_
                · go_simp
                simp only [List.getElem_toArray, List.getElem_cons_succ, List.getElem_cons_zero, Act.put, List.setIfInBounds_toArray, List.set_cons_zero, List.set_cons_succ]
                refine wpAnyH_take (i := 9) (v := Value.slice vo' (nvv + 1) vc') rfl (by kernel_rfl) (by kernel_rfl) (by kernel_rfl) (fun _ _ _ h => h) (Or.inl ⟨rfl, fun w' hw' => ?_⟩) hHeld ?_
                · go_simp
                simp only [List.getElem_toArray, List.getElem_cons_succ, List.getElem_cons_zero, Act.put, List.setIfInBounds_toArray, List.set_cons_zero, List.set_cons_succ]
                refine wpAnyH_done (by kernel_rfl) ?_ _
                refine NoPanic.normal ?_
                clear hHeld

                go_wp2_with fail
                refine (var_any pnm u7).mono ?_
                rintro r u12 ⟨rfl, hb12⟩
                have HM12 := Lib.hid (HM7.out.below hgW2 hneg hb12)
                have hr12 : u12.heap[p9]? = some (.cells #[.int .i64 k5, .string t5, .slice no5 nn5 nc5, .slice ao6 an6 ac6] 28 (0, 0)) := HM12.out.row
                have HR12 := Lib.hid hr12
                have zv : (#[.int .i64 5, .string pnm, .slice none 0 0, .slice none 0 0] : Array Value).all (·.oneCell') = true := by simp [Value.oneCell']
                have HMID := Lib.hid (HM12.out.setP hgW2 hgeb pnm)
                have hmp1 : nms ++ [pnm] = (ps ++ [(pnm, x5)]).map (·.1) := by rw [List.map_append, ← HNS.out]; rfl
                have hmp2 : vals ++ [x5] = (ps ++ [(pnm, x5)]).map (·.2) := by rw [List.map_append, ← HVS.out]; rfl
                rw [hmp1, hmp2] at HMID
                clear hb12 hr12 HM12 hmp1 hmp2
                go_upto_region 13 with (refine wpList_store_row rfl 28 _ _ rfl p9 #[.int .i64 5, .string pnm, .slice none 0 0, .slice none 0 0] rfl rfl 28 _ HR12.out info28 rfl zv ?_)
                try simp only [Act.put]
                generalize u12.setRow p9 #[.int .i64 5, .string pnm, .slice none 0 0, .slice none 0 0] = w12 at HMID ⊢
                clear HR12 zv
                obtain ⟨xs, hx8, hB8, c3, hc9⟩ := HMID.out.app hgW2 hgeb hneg rfl
                rw [HNPL.out] at hx8 hc9
                have HX8 := Lib.hid hx8
                have HC9 := Lib.hid hc9
                have hr8 : w12.heap[p9]? = some (.cells #[.int .i64 5, .string pnm, .slice none 0 0, .slice none 0 0] 28 (0, 0)) := HMID.out.row
                obtain ⟨f0, f1, f2, f3⟩ := EB.cell _ _ _ _ _ _ (show EB w12 p9 _ _ _ _ from hr8)
                have c3' : w12.cell? ⟨ge, 3, none⟩ = some (.slice ao5 np ac5) := (EB.cell _ _ _ _ _ _ HMID.out.eb).2.2.2
                clear hx8 hc9 hr8 HMID
                go_wp2_with (at_builtin; refine wpList_app rfl (Operand.tmp 63) (Operand.tmp 65) rfl W2.heap.size (.slice ao5 np ac5) np xs rfl HX8.out w12.heap.size 1 rfl (#[.int .i64 5, .string pnm, .slice none 0 0, .slice none 0 0] : Array Value).toList rfl (row_cellsT _ 28 _) (by intro u hu; simp at hu; rcases hu with rfl | rfl | rfl | rfl <;> rfl) hml2 hB8 ?_; intro av' w9 hown9 hg9 hv9; obtain ⟨ao', ac', rfl⟩ := own_form hown9; obtain ⟨c9, f9, hrest9⟩ := HC9.out _ _ hown9 hg9 hv9; have HRE := Lib.hid hrest9; clear hrest9 hown9 hg9 hv9)
                go_roundw
                case rel => exact HREL.out _ _ _ _ _ HSN2.out HRE.out
                case measure => simp [intOf]; omega
            · have hsn := HSN.out a[j]
              rw [← take_snoc_et a j hlt, ← HMM.out, ← HMD.out, ← HPS.out, ← HX5.out, ← HM5.out, hs2, hb] at hsn
              have HSN2 : Hid (Et.nrms k t n 0 (a.take (j + 1)) = (m5, made ++ [x5], ps)) := hsn
              rw [HVS.out, HNS.out] at HMID
              clear hsn HSN hb hs2
              obtain ⟨xs, hx8, hB8, c3, hc9⟩ := HMID.out.app hgW2 hgeb hneg rfl
              rw [HNPL.out] at hx8 hc9
              have HX8 := Lib.hid hx8
              have HC9 := Lib.hid hc9
              have hr8 : u8.heap[p9]? = some (.cells #[.int .i64 k5, .string t5, .slice no5 nn5 nc5, .slice ao6 an6 ac6] 28 (0, 0)) := HMID.out.row
              obtain ⟨f0, f1, f2, f3⟩ := EB.cell _ _ _ _ _ _ (show EB u8 p9 _ _ _ _ from hr8)
              have c3' : u8.cell? ⟨ge, 3, none⟩ = some (.slice ao5 np ac5) := (EB.cell _ _ _ _ _ _ HMID.out.eb).2.2.2
              clear hx8 hc9 hr8 HMID
              go_wp2_with (at_builtin; refine wpList_app rfl (Operand.tmp 63) (Operand.tmp 65) rfl W2.heap.size (.slice ao5 np ac5) np xs rfl HX8.out u8.heap.size 1 rfl (#[.int .i64 k5, .string t5, .slice no5 nn5 nc5, .slice ao6 an6 ac6] : Array Value).toList rfl (row_cellsT _ 28 _) (by intro u hu; simp at hu; rcases hu with rfl | rfl | rfl | rfl <;> rfl) hml2 hB8 ?_; intro av' w9 hown9 hg9 hv9; obtain ⟨ao', ac', rfl⟩ := own_form hown9; obtain ⟨c9, f9, hrest9⟩ := HC9.out _ _ hown9 hg9 hv9; have HRE := Lib.hid hrest9; clear hrest9 hown9 hg9 hv9)
              go_roundw
              case rel => exact HREL.out _ _ _ _ _ HSN2.out HRE.out
              case measure => simp [intOf]; omega
          · have p1 : decide (z ≤ (j : Int)) = false := decide_eq_false hzj
            have hs2 : slot k t (0 + (a.take j).length) = false := by rw [List.length_take, Nat.min_eq_left hj, Nat.zero_add, HSJ.out, p0, p1]; rfl
            have hsn := HSN.out a[j]
            rw [← take_snoc_et a j hlt, ← HMM.out, ← HMD.out, ← HPS.out, ← HX5.out, ← HM5.out, hs2] at hsn
            have HSN2 : Hid (Et.nrms k t n 0 (a.take (j + 1)) = (m5, made ++ [x5], ps)) := hsn
            rw [HVS.out, HNS.out] at HMID
            clear hsn HSN hs2 HNL HR8
            obtain ⟨xs, hx8, hB8, c3, hc9⟩ := HMID.out.app hgW2 hgeb hneg rfl
            rw [HNPL.out] at hx8 hc9
            have HX8 := Lib.hid hx8
            have HC9 := Lib.hid hc9
            have hr8 : w8.heap[p9]? = some (.cells #[.int .i64 k5, .string t5, .slice no5 nn5 nc5, .slice ao6 an6 ac6] 28 (0, 0)) := HMID.out.row
            obtain ⟨f0, f1, f2, f3⟩ := EB.cell _ _ _ _ _ _ (show EB w8 p9 _ _ _ _ from hr8)
            have c3' : w8.cell? ⟨ge, 3, none⟩ = some (.slice ao5 np ac5) := (EB.cell _ _ _ _ _ _ HMID.out.eb).2.2.2
            clear hx8 hc9 hr8 HMID
            go_wp2_with (at_builtin; refine wpList_app rfl (Operand.tmp 63) (Operand.tmp 65) rfl W2.heap.size (.slice ao5 np ac5) np xs rfl HX8.out w8.heap.size 1 rfl (#[.int .i64 k5, .string t5, .slice no5 nn5 nc5, .slice ao6 an6 ac6] : Array Value).toList rfl (row_cellsT _ 28 _) (by intro u hu; simp at hu; rcases hu with rfl | rfl | rfl | rfl <;> rfl) hml2 hB8 ?_; intro av' w9 hown9 hg9 hv9; obtain ⟨ao', ac', rfl⟩ := own_form hown9; obtain ⟨c9, f9, hrest9⟩ := HC9.out _ _ hown9 hg9 hv9; have HRE := Lib.hid hrest9; clear hrest9 hown9 hg9 hv9)
            go_roundw
            case rel => exact HREL.out _ _ _ _ _ HSN2.out HRE.out
            case measure => simp [intOf]; omega
        · have p0 : decide (0 ≤ z) = false := decide_eq_false hz0
          have hs2 : slot k t (0 + (a.take j).length) = false := by rw [List.length_take, Nat.min_eq_left hj, Nat.zero_add, HSJ.out, p0]; rfl
          have hsn := HSN.out a[j]
          rw [← take_snoc_et a j hlt, ← HMM.out, ← HMD.out, ← HPS.out, ← HX5.out, ← HM5.out, hs2] at hsn
          have HSN2 : Hid (Et.nrms k t n 0 (a.take (j + 1)) = (m5, made ++ [x5], ps)) := hsn
          rw [HVS.out, HNS.out] at HMID
          clear hsn HSN hs2 HNL HR8
          obtain ⟨xs, hx8, hB8, c3, hc9⟩ := HMID.out.app hgW2 hgeb hneg rfl
          rw [HNPL.out] at hx8 hc9
          have HX8 := Lib.hid hx8
          have HC9 := Lib.hid hc9
          have hr8 : w8.heap[p9]? = some (.cells #[.int .i64 k5, .string t5, .slice no5 nn5 nc5, .slice ao6 an6 ac6] 28 (0, 0)) := HMID.out.row
          obtain ⟨f0, f1, f2, f3⟩ := EB.cell _ _ _ _ _ _ (show EB w8 p9 _ _ _ _ from hr8)
          have c3' : w8.cell? ⟨ge, 3, none⟩ = some (.slice ao5 np ac5) := (EB.cell _ _ _ _ _ _ HMID.out.eb).2.2.2
          clear hx8 hc9 hr8 HMID
          go_wp2_with (at_builtin; refine wpList_app rfl (Operand.tmp 63) (Operand.tmp 65) rfl W2.heap.size (.slice ao5 np ac5) np xs rfl HX8.out w8.heap.size 1 rfl (#[.int .i64 k5, .string t5, .slice no5 nn5 nc5, .slice ao6 an6 ac6] : Array Value).toList rfl (row_cellsT _ 28 _) (by intro u hu; simp at hu; rcases hu with rfl | rfl | rfl | rfl <;> rfl) hml2 hB8 ?_; intro av' w9 hown9 hg9 hv9; obtain ⟨ao', ac', rfl⟩ := own_form hown9; obtain ⟨c9, f9, hrest9⟩ := HC9.out _ _ hown9 hg9 hv9; have HRE := Lib.hid hrest9; clear hrest9 hown9 hg9 hv9)
          go_roundw
          case rel => exact HREL.out _ _ _ _ _ HSN2.out HRE.out
          case measure => simp [intOf]; omega
      · have q1 : decide ((j : Int) < (a.length : Int)) = false := decide_eq_false (by omega)
        obtain ⟨wo, rfl⟩ : ∃ wo, wo = wr := ⟨_, rfl⟩
        obtain rfl : j = a.length := by omega
        have hta : a.take a.length = a := List.take_length
        have hmd := HMD.out
        have hps := HPS.out
        have hmm := HMM.out
        rw [hta] at hmd hps hmm
        have hnt : NAt (fun x => W1.heap.size ≤ x ∧ x ≠ ge) wo (.slice no' ns.length nc') ns := by
          have h1 := (HXN.out.at).bound
          refine NAt.mono (NAt.keeps (S := fun x => (W1.heap.size ≤ x ∧ (Value.slice no' ns.length nc').ownBlock = some x) ∧ x < W2.heap.size) h1 (fun x c T fz hx hxx _ => ⟨fz, ?_⟩)) (fun x hx => ⟨hx.1.1, HAP.out x hx.1.2⟩)
          rw [HMI.out.but.block x hx.2 (by have := hx.1.1; omega) (HAP.out x hx.1.2)]; exact hxx
        have hat : Et.At (fun x => W1.heap.size ≤ x ∧ x ≠ ge) wo (.mk k t ns made) #[.int .i64 k, .string t, (.slice no' ns.length nc'), .slice ao5 np ac5] := by
          rw [EAt_mk]
          exact ⟨_, _, rfl, hnt, HMI.out.own.at.mono (fun x hx => by have : W2.heap.size ≤ x := hx; exact ⟨by omega, by omega⟩)⟩
        have hnm2 : NAt (fun x => W2.heap.size ≤ x) wo (.slice mo nm mc) nms := NAt.mono HMI.out.nam.at (fun x hx => hx.1)
        have HNT := Lib.hid hnm2
        have HVT := Lib.hid (HMI.out.val.at)
        have HCNT : Hid (Rk wo g ((Et.mk k t ns a).nrm n).1) := by rw [HEQ.out, ← hmm]; exact HMI.out.cn
        have HLT : Hid (((Et.mk k t ns a).nrm n).2 = lets ps (.mk k t ns made)) := by show ((Et.mk k t ns a).nrm n).2 = lets ps (.mk k t ns made); rw [HEQ.out, ← hps, ← hmd]
        have HST : Hid (RLet ps (.mk k t ns made) W1.heap.size ge wo (.int .i64 (nm : Int)) wo) := ⟨ps.length, _, Nat.le_refl _, by rw [HPL.out], HMI.out.eb, by rw [List.drop_length]; exact hat, But.refl _ _ _⟩
        have HGR : Hid (wo.heap[gr]? = some (.cells Z4 28 (0, 0))) := by
          show _ = _
          rw [HB1r.out.block gr hgr1 (by omega)]; exact HZ.out
        have hgrge : gr ≠ ge := by omega
        have hgwr : ge < wo.heap.size := by omega
        clear hta hmd hps hmm hnt hat hnm2
        go_wp2_with fail
        go_loopw [12] (fun iv wr' => RLet ps (.mk k t ns made) W1.heap.size ge wo iv wr') (fun iv _ => (intOf iv).toNat)
        case atStart => exact HST.out
        case round =>
          obtain ⟨i, cs, hi, rfl, hrow, hatx, hbx⟩ := hrel
          obtain ⟨k8, t8, no8, nn8, nc8, ao8, an8, ac8, rfl⟩ := EAt_sl hatx
          have HROW : Hid (EB wr ge k8 t8 (.slice no8 nn8 nc8) (.slice ao8 an8 ac8)) := hrow
          have HATX := Lib.hid hatx
          have HBX := Lib.hid hbx
          clear HST hrow hatx hbx
          by_cases hi0 : 0 < i
          · have q3 : decide (0 < (i : Int)) = true := decide_eq_true (by omega)
            obtain ⟨q, hq⟩ : ∃ q, i = q + 1 := ⟨i - 1, by omega⟩
            have e1 : (i : Int) - 1 = (q : Int) := by omega
            have hpl := HPL.out
            have hnv := HNV.out
            have hqm : q < nm := by omega
            have hqv : q < nvv := by omega
            have hqp : q < ps.length := by omega
            have hql : q < nms.length := by rw [HNML.out]; exact hqm
            have hqvl : q < vals.length := by rw [HNVL.out]; exact hqv
            have hnt2 : NAt (fun x => W2.heap.size ≤ x) wr (.slice mo nm mc) nms := HNT.out.keeps (HBX.out.keeps (fun x hx => by have : W2.heap.size ≤ x := hx; omega))
            have hvt2 := AAt.keeps HVT.out (HBX.out.keeps (fun x hx => by have : W2.heap.size ≤ x := hx; omega))
            obtain ⟨gm, om, hmo, -, cn⟩ := hnt2.get q hql
            obtain ⟨gv, ov, k7, t7, nv7, av7, hvo, -, -, hat7, e0, e1', e2, e3, -, -⟩ := hvt2.get q hqvl
            subst hmo hvo
            obtain ⟨no7, nn7, nc7, ao7, an7, ac7, rfl, rfl⟩ : ∃ nod nnd ncd aod ad cd, nv7 = .slice nod nnd ncd ∧ av7 = .slice aod ad cd := by
              obtain ⟨k3, t3, no2, nn2, nc2, ao4, an2, ac2, e4⟩ := EAt_sl hat7
              simp only [Array.mk.injEq, List.cons.injEq, Value.int.injEq, Value.string.injEq, and_true, true_and] at e4
              exact ⟨_, _, _, _, _, _, e4.2.2.1, e4.2.2.2⟩
            obtain ⟨sq, hsq⟩ : ∃ s, s = nms[q] := ⟨_, rfl⟩
            rw [← hsq] at cn
            have hsp : sq = (ps[q]'hqp).1 := by
              have : nms[q]? = some (ps[q]'hqp).1 := by rw [HNS.out]; simp [hqp]
              rw [List.getElem?_eq_getElem hql] at this
              injection this with this
              rw [hsq]; exact this
            have hvp : vals[q] = (ps[q]'hqp).2 := by
              have : vals[q]? = some (ps[q]'hqp).2 := by rw [HVS.out]; simp [hqp]
              rw [List.getElem?_eq_getElem hqvl] at this
              injection this with this
            obtain ⟨vq, hvq⟩ : ∃ v, v = (ps[q]'hqp).2 := ⟨_, rfl⟩
            rw [hvp, ← hvq] at hat7
            have hat7' : Et.At (fun x => W1.heap.size ≤ x ∧ x ≠ ge) wr vq #[.int .i64 k7, .string t7, .slice no7 nn7 nc7, .slice ao7 an7 ac7] := Et.At.mono (fun x hx => by have : W2.heap.size ≤ x := hx; exact ⟨by omega, by omega⟩) _ _ hat7
            have HLD : Hid (lets (ps.drop q) (.mk k t ns made) = ebind sq vq (lets (ps.drop i) (.mk k t ns made))) := by
              have h := lets_drop ps (q + 1) (by omega) (by omega) (.mk k t ns made)
              rw [hsp, hvq, hq]; exact h
            have HBD : Hid (∀ w', Below wr.heap.size wr w' → Calls Tryd.prog 27 #[.string sq, .agg #[.int .i64 k7, .string t7, .slice no7 nn7 nc7, .slice ao7 an7 ac7], .agg #[.int .i64 k8, .string t8, .slice no8 nn8 nc8, .slice ao8 an8 ac8]] w' (RetBind (fun x => W1.heap.size ≤ x ∧ x ≠ ge) sq vq (lets (ps.drop i) (.mk k t ns made)) w')) := fun w' hw' => bind_any sq _ _ _ _ _ w' (Et.At.keeps (Keeps.of_below hw') _ _ hat7') (Et.At.keeps (Keeps.of_below hw') _ _ HATX.out)
            have hge2 : ge < wr.heap.size := (Array.getElem?_eq_some_iff.1 HROW.out).1
            have hgm : gm ≠ ge := by
              rcases hnt2 with h | ⟨g0, o0, c0, a0, f0, e5, hS, -⟩
              · exact absurd h.2 (by intro e; rw [e] at hql; simp at hql)
              · injection e5 with e5
                injection e5 with e5
                injection e5 with e5
                have : W2.heap.size ≤ g0 := hS
                omega
            have hgv : gv ≠ ge := by
              rcases hvt2 with h | ⟨g0, o0, c0, a0, f0, e5, hS, -⟩
              · exact absurd h.2 (by intro e; rw [e] at hqvl; simp at hqvl)
              · injection e5 with e5
                injection e5 with e5
                injection e5 with e5
                have : W2.heap.size ≤ g0 := hS
                omega
            have hwr2 := HBX.out.size
            have HC17 : Hid (∀ w', But wr.heap.size ge wr w' → w'.cell? ⟨gm, om + q, none⟩ = some (.string sq) ∧ w'.cell? ⟨gv, ov + q * 4, none⟩ = some (.int .i64 k7) ∧ w'.cell? ⟨gv, ov + q * 4 + 1, none⟩ = some (.string t7) ∧ w'.cell? ⟨gv, ov + q * 4 + 2, none⟩ = some (.slice no7 nn7 nc7) ∧ w'.cell? ⟨gv, ov + q * 4 + 3, none⟩ = some (.slice ao7 an7 ac7)) := fun w' hw' => by
              have hcell : ∀ (p : Addr) v, wr.cell? p = some v → p.block ≠ ge → w'.cell? p = some v := fun p v h hne => by rw [hw'.cell (World.block_lt_of_cell? wr _ h) hne]; exact h
              exact ⟨hcell _ _ cn hgm, hcell _ _ e0 hgv, hcell _ _ e1' hgv, hcell _ _ e2 hgv, hcell _ _ e3 hgv⟩
            have hqi : q ≤ ps.length := by omega
            have HQ := Lib.hid hq
            clear hvq hq hpl hnv hat7 hat7' hsp hvp hsq cn e0 e1' e2 e3 hnt2 hvt2 hqp hql hqvl
            go_upto_region 17 with fail
            have HS0 : Hid (But wr.heap.size ge wr wr.drew) := (But.refl _ _ _).drew
            have HSB : Hid (Below wr.heap.size wr wr.drew) := (Below.refl _ _).drew
            refine wp_region_noPanic ?_
            refine wp_region_held_drew (S := fun w' => But wr.heap.size ge wr w') (by kernel_rfl) HS0.out (fun hHeld => ?_)
            generalize wr.drew = X7 at HS0 HSB hHeld ⊢
            refine wpAnyH_take (i := 0) (v := Value.slice (some ⟨gm, om, none⟩) nm mc) rfl (by kernel_rfl) (by kernel_rfl) (by kernel_rfl) (fun _ _ _ h => h) (Or.inl ⟨rfl, fun w' hw' => ?_⟩) hHeld ?_
            · go_simp
            simp only [List.getElem_toArray, List.getElem_cons_succ, List.getElem_cons_zero, Act.put, List.setIfInBounds_toArray, List.set_cons_zero, List.set_cons_succ]
            refine wpAnyH_take (i := 1) (v := Value.int .i64 (i : Int)) rfl (by kernel_rfl) (by kernel_rfl) (by kernel_rfl) (fun _ _ _ h => h) (Or.inl ⟨rfl, fun w' hw' => ?_⟩) hHeld ?_
            · go_simp
            simp only [List.getElem_toArray, List.getElem_cons_succ, List.getElem_cons_zero, Act.put, List.setIfInBounds_toArray, List.set_cons_zero, List.set_cons_succ]
            refine wpAnyH_take (i := 2) (v := Value.int .i64 (q : Int)) rfl (by kernel_rfl) (by kernel_rfl) (by kernel_rfl) (fun _ _ _ h => h) (Or.inl ⟨rfl, fun w' hw' => ?_⟩) hHeld ?_
            · go_simp; exact wrap_nat q (by omega)
            simp only [List.getElem_toArray, List.getElem_cons_succ, List.getElem_cons_zero, Act.put, List.setIfInBounds_toArray, List.set_cons_zero, List.set_cons_succ]
            refine wpAnyH_take (i := 3) (v := Value.pointer (some ⟨gm, om + q, none⟩)) rfl (by kernel_rfl) (by kernel_rfl) (by kernel_rfl) (fun _ _ _ h => h) (Or.inl ⟨rfl, fun w' hw' => ?_⟩) hHeld ?_
            · go_simp
            simp only [List.getElem_toArray, List.getElem_cons_succ, List.getElem_cons_zero, Act.put, List.setIfInBounds_toArray, List.set_cons_zero, List.set_cons_succ]
            refine wpAnyH_take (i := 4) (v := Value.string sq) rfl (by kernel_rfl) (by kernel_rfl) (by kernel_rfl) (fun _ _ _ h => h) (Or.inl ⟨rfl, fun w' hw' => ?_⟩) hHeld ?_
            · obtain ⟨p0, y0, y1, y2, y3⟩ := HC17.out w' hw'; go_simp
            simp only [List.getElem_toArray, List.getElem_cons_succ, List.getElem_cons_zero, Act.put, List.setIfInBounds_toArray, List.set_cons_zero, List.set_cons_succ]
            refine wpAnyH_take (i := 5) (v := Value.slice (some ⟨gv, ov, none⟩) nvv vc) rfl (by kernel_rfl) (by kernel_rfl) (by kernel_rfl) (fun _ _ _ h => h) (Or.inl ⟨rfl, fun w' hw' => ?_⟩) hHeld ?_
            · go_simp
            simp only [List.getElem_toArray, List.getElem_cons_succ, List.getElem_cons_zero, Act.put, List.setIfInBounds_toArray, List.set_cons_zero, List.set_cons_succ]
            refine wpAnyH_take (i := 6) (v := Value.int .i64 (i : Int)) rfl (by kernel_rfl) (by kernel_rfl) (by kernel_rfl) (fun _ _ _ h => h) (Or.inl ⟨rfl, fun w' hw' => ?_⟩) hHeld ?_
            · go_simp
            simp only [List.getElem_toArray, List.getElem_cons_succ, List.getElem_cons_zero, Act.put, List.setIfInBounds_toArray, List.set_cons_zero, List.set_cons_succ]
            refine wpAnyH_take (i := 7) (v := Value.int .i64 (q : Int)) rfl (by kernel_rfl) (by kernel_rfl) (by kernel_rfl) (fun _ _ _ h => h) (Or.inl ⟨rfl, fun w' hw' => ?_⟩) hHeld ?_
            · go_simp; exact wrap_nat q (by omega)
            simp only [List.getElem_toArray, List.getElem_cons_succ, List.getElem_cons_zero, Act.put, List.setIfInBounds_toArray, List.set_cons_zero, List.set_cons_succ]
            refine wpAnyH_take (i := 8) (v := Value.pointer (some ⟨gv, ov + q * 4, none⟩)) rfl (by kernel_rfl) (by kernel_rfl) (by kernel_rfl) (fun _ _ _ h => h) (Or.inl ⟨rfl, fun w' hw' => ?_⟩) hHeld ?_
            · go_simp
            simp only [List.getElem_toArray, List.getElem_cons_succ, List.getElem_cons_zero, Act.put, List.setIfInBounds_toArray, List.set_cons_zero, List.set_cons_succ]
            refine wpAnyH_take (i := 9) (v := Value.agg #[.int .i64 k7, .string t7, .slice no7 nn7 nc7, .slice ao7 an7 ac7]) rfl (by kernel_rfl) (by kernel_rfl) (by kernel_rfl) (fun _ _ _ h => h) (Or.inl ⟨rfl, fun w' hw' => ?_⟩) hHeld ?_
            · obtain ⟨p0, y0, y1, y2, y3⟩ := HC17.out w' hw'; go_simp
            simp only [List.getElem_toArray, List.getElem_cons_succ, List.getElem_cons_zero, Act.put, List.setIfInBounds_toArray, List.set_cons_zero, List.set_cons_succ]
            refine wpAnyH_ready (rs := [10]) (by kernel_rfl) (by simp) ?_
            refine (AllReadyH.cons rfl (fun K hK => ?_) AllReadyH.nil)
            obtain ⟨x0, x1, x2, x3⟩ := EB.cell _ _ _ _ _ _ (show EB X7 ge k8 t8 _ _ from row_below HSB.out HROW.out)
            go_simp
            clear x0 x1 x2 x3
            refine hK.out _ _ HS0.out (fun hHeld => ?_)
            clear hK K
            try simp only [List.getElem_toArray, List.getElem_cons_succ, List.getElem_cons_zero, Act.put, List.setIfInBounds_toArray, List.set_cons_zero, List.set_cons_succ]
            refine wpAnyH_ready (rs := [11]) (by kernel_rfl) (by simp) ?_
            refine (AllReadyH.cons rfl (fun K hK => ?_) AllReadyH.nil)
            go_simp
            refine (HBD.out X7 HSB.out).mono ?_
            rintro r u11 ⟨cs9, rfl, hat9, hb9⟩
            obtain ⟨k9, t9, no9, nn9, nc9, ao9, an9, ac9, rfl⟩ := EAt_sl hat9
            have HS11 : Hid (But wr.heap.size ge wr u11) := But.of (HSB.out.trans (hb9.mono HSB.out.size))
            have HR11 : Hid (EB u11 ge k8 t8 (.slice no8 nn8 nc8) (.slice ao8 an8 ac8)) := row_below hb9 (row_below HSB.out HROW.out)
            have hXs := HSB.out.size
            have HA11 : Hid (Et.At (fun x => W1.heap.size ≤ x ∧ x ≠ ge) (u11.setRow ge #[.int .i64 k9, .string t9, .slice no9 nn9 nc9, .slice ao9 an9 ac9]) (ebind sq vq (lets (ps.drop i) (.mk k t ns made))) #[.int .i64 k9, .string t9, .slice no9 nn9 nc9, .slice ao9 an9 ac9]) := by
              have h1 := Et.At.mono (T := fun x => W1.heap.size ≤ x ∧ x ≠ ge) (fun x hx => by rcases hx with hx | hx; exact hx; (have : X7.heap.size ≤ x := hx; exact ⟨by omega, by omega⟩)) _ _ hat9
              exact Et.At.keeps (S := fun x => W1.heap.size ≤ x ∧ x ≠ ge) (fun x c T fz hs hx _ => ⟨fz, by rw [setRow_other u11 ge x _ hs.2]; exact hx⟩) _ _ h1
            have HS12 : Hid (But wr.heap.size ge wr (u11.setRow ge #[.int .i64 k9, .string t9, .slice no9 nn9 nc9, .slice ao9 an9 ac9])) := HS11.out.trans ⟨rfl, rfl, rfl, by simp, fun x hx hne => setRow_other u11 ge x _ hne⟩
            clear hat9 hb9 hXs
            refine hK.out _ _ HS11.out (fun hHeld => ?_)
            clear hK K
            try simp only [List.getElem_toArray, List.getElem_cons_succ, List.getElem_cons_zero, Act.put, List.setIfInBounds_toArray, List.set_cons_zero, List.set_cons_succ]
            have z9 : (#[.int .i64 k9, .string t9, .slice no9 nn9 nc9, .slice ao9 an9 ac9] : Array Value).all (·.oneCell') = true := by simp [Value.oneCell']
            refine wpAnyH_ready (rs := [12]) (by kernel_rfl) (by simp) ?_
            refine (AllReadyH.cons rfl (fun K hK => ?_) AllReadyH.nil)
            refine wp_store_row 28 _ _ rfl ge #[.int .i64 k9, .string t9, .slice no9 nn9 nc9, .slice ao9 an9 ac9] (by go_simp) rfl 28 _ HR11.out info28 rfl z9 ?_
            refine hK.out _ _ HS12.out (fun hHeld => ?_)
            clear hK K
            try simp only [List.getElem_toArray, List.getElem_cons_succ, List.getElem_cons_zero, Act.put, List.setIfInBounds_toArray, List.set_cons_zero, List.set_cons_succ]
            refine wpAnyH_done (by kernel_rfl) ?_ _
            refine NoPanic.normal ?_
            clear hHeld
            have HFIN : Hid (RLet ps (.mk k t ns made) W1.heap.size ge wo (.int .i64 (q : Int)) (u11.setRow ge #[.int .i64 k9, .string t9, .slice no9 nn9 nc9, .slice ao9 an9 ac9])) := ⟨q, #[.int .i64 k9, .string t9, .slice no9 nn9 nc9, .slice ao9 an9 ac9], hqi, rfl, setRow_heap u11 _ _ _ 28 _ HR11.out, by rw [HLD.out]; exact HA11.out, HBX.out.trans (HS12.out.mono hwr2)⟩
            clear HC17 HBD HLD HS0 HSB HS11 HS12 HA11 HR11 hgm hgv
            generalize u11.setRow ge #[.int .i64 k9, .string t9, .slice no9 nn9 nc9, .slice ao9 an9 ac9] = w12 at HFIN ⊢
            go_wp2_with fail
            go_roundw
            case rel => exact HFIN.out
            case measure => simp [intOf]; omega
          · have q3 : decide (0 < (i : Int)) = false := decide_eq_false (by omega)
            obtain rfl : i = 0 := by omega
            have hatx := HATX.out
            rw [List.drop_zero] at hatx
            have hgr2 : wr.heap[gr]? = some (.cells Z4 28 (0, 0)) := by rw [HBX.out.block gr (Array.getElem?_eq_some_iff.1 HGR.out).1 hgrge]; exact HGR.out
            have HGR2 := Lib.hid hgr2
            have z8 : (#[.int .i64 k8, .string t8, .slice no8 nn8 nc8, .slice ao8 an8 ac8] : Array Value).all (·.oneCell') = true := by simp [Value.oneCell']
            have HFIN : Hid (RetRn (.mk k t ns a) n g w (.returned (.agg #[.int .i64 k8, .string t8, .slice no8 nn8 nc8, .slice ao8 an8 ac8])) (wr.setRow gr #[.int .i64 k8, .string t8, .slice no8 nn8 nc8, .slice ao8 an8 ac8])) :=
              rn_end HB1.out HXB.out HMI.out.but HBX.out hgrw hgr1 hge8 hgw HCNT.out (by rw [HLT.out]; exact hatx)
            clear hatx hgr2 HATX
            go_wp2_with (first | (refine wpList_load_row rfl 28 _ rfl ge rfl 28 #[.int .i64 k8, .string t8, .slice no8 nn8 nc8, .slice ao8 an8 ac8] (0, 0) _ HROW.out Tryd.underlying28 rfl info28 ?_) | (refine wpList_store_row rfl 28 _ _ rfl gr #[.int .i64 k8, .string t8, .slice no8 nn8 nc8, .slice ao8 an8 ac8] rfl rfl 28 Z4 HGR2.out info28 rfl z8 ?_))
            refine bodyPost_ret (results_cell_row rfl _ _ gr 28 #[.int .i64 k8, .string t8, .slice no8 nn8 nc8, .slice ao8 an8 ac8] (0, 0) _ rfl (setRow_heap wr _ _ _ 28 _ HGR2.out) Tryd.underlying28 rfl info28) rfl ?_
            exact HFIN.out
end Go.Proofs.YtmcgocbkjdacaaaDoor
