/- norm's term. -/
import Derived.Test.YtmcgocbkjdacaaaDoorNT1
namespace Go.Proofs.YtmcgocbkjdacaaaDoor
open Go.RowKit Go.BigM
set_option linter.unusedVariables false
set_option linter.unusedSimpArgs false
set_option maxHeartbeats 16000000 in
set_option maxRecDepth 100000 in
theorem nterm_node (k : Int) (t : ByteArray) (ns : List ByteArray) (a : List Et) (ih : ∀ e ∈ a, NC e) (hl : a.length ≤ 100000) (ht : t.size ≤ 100) (hnl : ns.length ≤ 100) : NC (.mk k t ns a) := by
  intro S cs w g n hat0 hnk hg0 htab hn
  have hat := Et.At.sat hnk.ne _ _ hat0
  clear hat0
  rw [thick_mk] at hn
  have hgw := hnk.lt
  have HEQ : Hid ((Et.mk k t ns a).nrm n = ((Et.nrms k t n 0 a).1, lets (Et.nrms k t n 0 a).2.2 (.mk k t ns (Et.nrms k t n 0 a).2.1))) := nrm_mk n k t ns a
  have HCN : Hid (∀ j, (Et.nrms k t n 0 (a.take j)).1 = n + Et.thicks k t 0 (a.take j)) := fun j => (nrms_f k t (a.take j) (fun e _ => nrm_f e) n 0).1
  have HTK : Hid (∀ j (h : j < a.length), Et.thicks k t 0 (a.take j) + a[j].thick ≤ Et.thicks k t 0 a) := fun j h => thicks_take k t a j h
  obtain ⟨th, hth⟩ : ∃ th, th = Et.thicks k t 0 a := ⟨_, rfl⟩
  rw [← hth] at HTK hn
  clear hth
  rw [EAt_mk] at hat
  obtain ⟨mv, lv, rfl, hm, hl0⟩ := hat
  have hm1 := hm.one
  have hl1 := hl0.one
  obtain ⟨ao, ac, rfl⟩ := hl0.form
  obtain ⟨no, nc, rfl⟩ := hm.form
  have hb1 : Below w.heap.size w ((w.alloc (.cells #[.int .i64 k, .string t, .slice no ns.length nc, .slice ao a.length ac] 28)).alloc (.cells Z4 28)) := ((Below.refl w.heap.size w).alloc (Nat.le_refl _) _).alloc (by simp) _
  have hrow : ((w.alloc (.cells #[.int .i64 k, .string t, .slice no ns.length nc, .slice ao a.length ac] 28)).alloc (.cells Z4 28)).heap[w.heap.size]? = some (.cells #[.int .i64 k, .string t, .slice no ns.length nc, .slice ao a.length ac] 28 (0, 0)) := (Lib.alloc_old _ _ _ (by simp)).trans (alloc_at w _)
  have hz : ((w.alloc (.cells #[.int .i64 k, .string t, .slice no ns.length nc, .slice ao a.length ac] 28)).alloc (.cells Z4 28)).heap[w.heap.size + 1]? = some (.cells Z4 28 (0, 0)) := by
    have h := alloc_at (w.alloc (.cells #[.int .i64 k, .string t, .slice no ns.length nc, .slice ao a.length ac] 28)) (.cells Z4 28)
    have e : (w.alloc (.cells #[.int .i64 k, .string t, .slice no ns.length nc, .slice ao a.length ac] 28)).heap.size = w.heap.size + 1 := by simp
    rw [e] at h; exact h
  have hs1 : ((w.alloc (.cells #[.int .i64 k, .string t, .slice no ns.length nc, .slice ao a.length ac] 28)).alloc (.cells Z4 28)).heap.size = w.heap.size + 2 := by simp
  have HB1 := Lib.hid hb1
  have HRW : Hid (EB ((w.alloc (.cells #[.int .i64 k, .string t, .slice no ns.length nc, .slice ao a.length ac] 28)).alloc (.cells Z4 28)) w.heap.size k t (.slice no ns.length nc) (.slice ao a.length ac)) := hrow
  have HZ := Lib.hid hz
  have HM := Lib.hid (hm.keeps (Keeps.of_below hb1))
  have HL := Lib.hid (hl0.keeps (Keeps.of_below hb1))
  have HN1 := Lib.hid (hnk.below hb1)
  have HT1 := Lib.hid (htab.below hb1)
  have HFI : Hid (∀ w, Calls Tryd.prog 33 #[.agg #[.int .i64 k, .string t, .slice no ns.length nc, .slice ao a.length ac]] w (RetInt (firstN k t a.length : Nat) w)) := fun w => first_any k t (.slice no ns.length nc) _ _ _ w hl (by omega) rfl
  have HSL : Hid (∀ j, j < a.length → slot k t j = decide (firstN k t a.length ≤ j)) := fun j hj => firstN_slot k t a.length j hj
  have hfl := firstN_le k t a.length
  obtain ⟨f, hf⟩ : ∃ f, f = firstN k t a.length := ⟨_, rfl⟩
  rw [← hf] at HFI HSL hfl
  have IH := Lib.hid ih
  clear hb1 hrow hz hm hl0 ih hf hnk htab
  go_enter Tryd.func39, Tryd.ntmps39
  go_upto_region 1 with fail
  generalize (w.alloc (.cells #[.int .i64 k, .string t, .slice no ns.length nc, .slice ao a.length ac] 28)).alloc (.cells #[.int .i64 0, .string ⟨#[]⟩, .slice none 0 0, .slice none 0 0] 28) = W1 at HB1 HRW HZ HM HL HN1 HT1 hs1 ⊢
  obtain ⟨gs, hgs0⟩ : ∃ gs, gs = w.heap.size := ⟨_, rfl⟩
  obtain ⟨gr, hgr0⟩ : ∃ gr, gr = gs + 1 := ⟨_, rfl⟩
  rw [← hgs0] at HRW
  rw [← hgs0, ← hgr0] at HZ
  simp only [← hgs0]
  simp only [← hgr0]
  have hgs1 : gs < W1.heap.size := by omega
  have hgr1 : gr < W1.heap.size := by omega
  have hgrs : gr ≠ gs := by omega
  have hggs : gs ≠ g := by omega
  have hgW : g < W1.heap.size := by omega
  have hgrw : w.heap.size ≤ gr := by omega
  clear hgs0 hgr0 hs1
  have HCS : Hid (∀ w', Below W1.heap.size W1 w' → w'.cell? ⟨gs, 0, none⟩ = some (.int .i64 k) ∧ w'.cell? ⟨gs, 1, none⟩ = some (.string t) ∧ w'.cell? ⟨gs, 2, none⟩ = some (.slice no ns.length nc) ∧ w'.cell? ⟨gs, 3, none⟩ = some (.slice ao a.length ac)) := fun w' hw' => EB.cell w' gs k t _ _ (row_below hw' HRW.out)
  refine wp_region_noPanic ?_
  refine wp_region_held_drew (S := Below W1.heap.size W1) (by kernel_rfl) ((Below.refl _ _).drew) (fun hHeld => ?_)
  have HX : Hid (Below W1.heap.size W1 W1.drew) := (Below.refl _ _).drew
  generalize W1.drew = X at HX hHeld ⊢
  refine wpAnyH_take (i := 0) (v := Value.pointer (some ⟨gs, 0, none⟩)) rfl (by kernel_rfl) (by kernel_rfl) (by kernel_rfl) (fun _ _ _ h => h) (Or.inl ⟨rfl, fun w' hw' => ?_⟩) hHeld ?_
  · go_simp
  simp only [List.getElem_toArray, List.getElem_cons_succ, List.getElem_cons_zero, Act.put, List.setIfInBounds_toArray, List.set_cons_zero, List.set_cons_succ]
  refine wpAnyH_take (i := 1) (v := Value.int .i64 k) rfl (by kernel_rfl) (by kernel_rfl) (by kernel_rfl) (fun _ _ _ h => h) (Or.inl ⟨rfl, fun w' hw' => ?_⟩) hHeld ?_
  · obtain ⟨d0, d1, d2, d3⟩ := HCS.out w' hw'; go_simp
  simp only [List.getElem_toArray, List.getElem_cons_succ, List.getElem_cons_zero, Act.put, List.setIfInBounds_toArray, List.set_cons_zero, List.set_cons_succ]
  refine wpAnyH_take (i := 2) (v := Value.pointer (some ⟨gs, 1, none⟩)) rfl (by kernel_rfl) (by kernel_rfl) (by kernel_rfl) (fun _ _ _ h => h) (Or.inl ⟨rfl, fun w' hw' => ?_⟩) hHeld ?_
  · go_simp
  simp only [List.getElem_toArray, List.getElem_cons_succ, List.getElem_cons_zero, Act.put, List.setIfInBounds_toArray, List.set_cons_zero, List.set_cons_succ]
  refine wpAnyH_take (i := 3) (v := Value.string t) rfl (by kernel_rfl) (by kernel_rfl) (by kernel_rfl) (fun _ _ _ h => h) (Or.inl ⟨rfl, fun w' hw' => ?_⟩) hHeld ?_
  · obtain ⟨d0, d1, d2, d3⟩ := HCS.out w' hw'; go_simp
  simp only [List.getElem_toArray, List.getElem_cons_succ, List.getElem_cons_zero, Act.put, List.setIfInBounds_toArray, List.set_cons_zero, List.set_cons_succ]
  refine wpAnyH_take (i := 4) (v := Value.pointer (some ⟨gs, 2, none⟩)) rfl (by kernel_rfl) (by kernel_rfl) (by kernel_rfl) (fun _ _ _ h => h) (Or.inl ⟨rfl, fun w' hw' => ?_⟩) hHeld ?_
  · go_simp
  simp only [List.getElem_toArray, List.getElem_cons_succ, List.getElem_cons_zero, Act.put, List.setIfInBounds_toArray, List.set_cons_zero, List.set_cons_succ]
  refine wpAnyH_take (i := 5) (v := Value.slice no ns.length nc) rfl (by kernel_rfl) (by kernel_rfl) (by kernel_rfl) (fun _ _ _ h => h) (Or.inl ⟨rfl, fun w' hw' => ?_⟩) hHeld ?_
  · obtain ⟨d0, d1, d2, d3⟩ := HCS.out w' hw'; go_simp
  simp only [List.getElem_toArray, List.getElem_cons_succ, List.getElem_cons_zero, Act.put, List.setIfInBounds_toArray, List.set_cons_zero, List.set_cons_succ]
  refine wpAnyH_ready (rs := [6, 8]) (by kernel_rfl) (by simp) ?_
  refine (AllReadyH.cons rfl (fun K hK => ?_) (AllReadyH.cons rfl (fun K hK => ?_) AllReadyH.nil))
  · skip
    have HM6 := Lib.hid (HM.out.keeps (Keeps.of_below HX.out))
    refine wp_appN0 (Operand.const (.slice none 0 0)) (Operand.tmp 15) rfl W1.heap.size rfl _ ns rfl HM6.out (by omega) HX.out.size ?_
    intro v' w6 hown6 hg6
    obtain ⟨no', nc', rfl⟩ := own_form hown6
    have HB6 : Hid (Below W1.heap.size W1 w6) := HX.out.grown hg6 HX.out.size (fun x hx => by cases hx)
    have HN6 := Lib.hid hown6
    clear hown6 hg6
    refine hK.out _ _ HB6.out (fun hHeld => ?_)
    clear hK K
    try simp only [List.getElem_toArray, List.getElem_cons_succ, List.getElem_cons_zero, Act.put, List.setIfInBounds_toArray, List.set_cons_zero, List.set_cons_succ]
    refine wpAnyH_take (i := 7) (v := Value.agg #[.int .i64 k, .string t, .slice no' ns.length nc', .slice none 0 0]) rfl (by kernel_rfl) (by kernel_rfl) (by kernel_rfl) (fun _ _ _ h => h) (Or.inl ⟨rfl, fun w' hw' => ?_⟩) hHeld ?_
    · go_simp
    simp only [List.getElem_toArray, List.getElem_cons_succ, List.getElem_cons_zero, Act.put, List.setIfInBounds_toArray, List.set_cons_zero, List.set_cons_succ]
    refine wpAnyH_ready (rs := [8]) (by kernel_rfl) (by simp) ?_
    refine (AllReadyH.cons rfl (fun K hK => ?_) AllReadyH.nil)
    have HB8 : Hid (Below W1.heap.size W1 (w6.alloc (.cells Z4 28))) := HB6.out.alloc HB6.out.size _
    have HZ8 : Hid ((w6.alloc (.cells Z4 28)).heap[w6.heap.size]? = some (.cells Z4 28 (0, 0))) := alloc_at w6 _
    have hge8 : W1.heap.size ≤ w6.heap.size := HB6.out.size
    have HN8 := Lib.hid (HN6.out.below ((Below.refl _ _).alloc (Nat.le_refl _) (.cells Z4 28)))
    go_simp
    refine hK.out _ _ HB8.out (fun hHeld => ?_)
    clear hK K
    try simp only [List.getElem_toArray, List.getElem_cons_succ, List.getElem_cons_zero, Act.put, List.setIfInBounds_toArray, List.set_cons_zero, List.set_cons_succ]
    obtain ⟨x1, x2, x3, hgeb, hap⟩ := nt_start (k := k) (t := t) HB8.out HZ8.out hge8 HN8.out
    have HXB := Lib.hid x1
    have HXN := Lib.hid x2
    have HE0 := Lib.hid x3
    have hone : (#[.int .i64 k, .string t, .slice no' ns.length nc', .slice none 0 0] : Array Value).all (·.oneCell') = true := by simp [Value.oneCell']
    clear x1 x2 x3
    refine wpAnyH_ready (rs := [9]) (by kernel_rfl) (by simp) ?_
    refine (AllReadyH.cons rfl (fun K hK => ?_) AllReadyH.nil)
    refine wp_store_row 28 _ _ rfl (w6.heap.size) #[.int .i64 k, .string t, .slice no' ns.length nc', .slice none 0 0] (by go_simp) rfl 28 Z4 HZ8.out info28 rfl hone ?_
    refine hK.out _ _ HXB.out (fun hHeld => ?_)
    clear hK K
    try simp only [List.getElem_toArray, List.getElem_cons_succ, List.getElem_cons_zero, Act.put, List.setIfInBounds_toArray, List.set_cons_zero, List.set_cons_succ]
    refine wpAnyH_done (by kernel_rfl) ?_ _
    refine NoPanic.normal ?_
    clear hHeld
    generalize (w6.alloc (.cells Z4 28)).setRow w6.heap.size #[.int .i64 k, .string t, .slice no' ns.length nc', .slice none 0 0] = W0 at HXB HXN HE0 hgeb ⊢
    generalize w6.heap.size = ge at HE0 hgeb hge8 hap ⊢
    have HAP := Lib.hid hap
    clear hap hone
    have hneg : ge ≠ g := by omega
    have HN0 := Lib.hid (HN1.out.below HXB.out)
    have HG0 : Hid (W0.heap[gs]? = some (.cells #[.int .i64 k, .string t, .slice no ns.length nc, .slice ao a.length ac] 28 (0, 0))) := row_below HXB.out HRW.out
    go_wp2_with (refine wpList_load_row rfl 28 _ rfl gs rfl 28 #[.int .i64 k, .string t, .slice no ns.length nc, .slice ao a.length ac] (0, 0) _ HG0.out Tryd.underlying28 rfl info28 ?_)
    refine (HFI.out _).mono ?_
    rintro r W2 ⟨rfl, hb2⟩
    replace HXB := Lib.hid (HXB.out.trans (hb2.mono HXB.out.size))
    replace HXN := Lib.hid (HXN.out.below hb2)
    replace HE0 : Hid (EB W2 ge k t (.slice no' ns.length nc') (.slice none 0 0)) := row_below hb2 HE0.out
    replace HN0 := Lib.hid (HN0.out.below hb2)
    replace hgeb : ge < W2.heap.size := Nat.lt_of_lt_of_le hgeb hb2.size
    clear hb2 HG0 HFI
    have hW01 : W1.heap.size ≤ W2.heap.size := HXB.out.size
    have hgW2 : g < W2.heap.size := by omega
    obtain ⟨-, -, -, cs3⟩ := HCS.out W2 HXB.out
    go_wp2_with fail
    go_loopw [7, 23] (fun vv iv wr => TInv W2 g ge k t (.slice no' ns.length nc') a n vv iv wr) (fun _ iv _ => a.length - (intOf iv).toNat)
    case atStart => exact nt_zero HE0.out HN0.out
    case round =>
      clear cs3
      obtain ⟨j, av, hj, rfl, hown, hval, hap, heb, hnk, hbut⟩ := hrel
      have HSN := Lib.hid (fun e => nrms_snoc k t e (a.take j) n 0)
      have hcn := HCN.out j
      have hml := nrms_len k t (a.take j) n 0
      rw [List.length_take, Nat.min_eq_left hj] at hml
      obtain ⟨made, hmade⟩ : ∃ x, x = (Et.nrms k t n 0 (a.take j)).2.1 := ⟨_, rfl⟩
      obtain ⟨vals, hvals⟩ : ∃ x, x = (Et.nrms k t n 0 (a.take j)).2.2 := ⟨_, rfl⟩
      obtain ⟨m, hm⟩ : ∃ x, x = (Et.nrms k t n 0 (a.take j)).1 := ⟨_, rfl⟩
      rw [← hmade] at hown hml
      rw [← hvals] at hval
      rw [← hm] at hnk hcn
      obtain ⟨vo, vc, rfl⟩ := hval.form
      obtain ⟨ao5, ac5, rfl⟩ := hown.form
      have hs0 := hbut.size
      have hB1 : But W1.heap.size g W1 wr := (But.of HXB.out : But W1.heap.size g W1 W2).trans (hbut.to hW01 hge8)
      have HB1r := Lib.hid hB1
      have HA := Lib.hid (AAt.keeps HL.out (hB1.keeps fun x hx => hx.2))
      have HGS : Hid (EB wr gs k t (.slice no ns.length nc) (.slice ao a.length ac)) := by
        show EB _ _ _ _ _ _
        unfold EB
        rw [hB1.block gs hgs1 hggs]; exact HRW.out
      have HTR := Lib.hid (HT1.out.but hB1 (by omega) hg0)
      have HOW := Lib.hid hown
      have HVA := Lib.hid hval
      have HAPP := Lib.hid hap
      have HEB := Lib.hid heb
      have HNK := Lib.hid hnk
      have HBT := Lib.hid hbut
      have HMD := Lib.hid hmade
      have HVL := Lib.hid hvals
      have HMM := Lib.hid hm
      have hgwr : g < wr.heap.size := by omega
      have hml3 : made.length ≤ 100000 := by omega
      have hLv : vals.length ≤ 100000 := by rw [hvals]; have := vals_len k t (a.take j) n 0; rw [List.length_take] at this; omega
      clear hown hval hap heb hnk hbut hmade hvals hm hB1 hml
      by_cases hlt : j < a.length
      · have q1 : decide ((j : Int) < (a.length : Int)) = true := decide_eq_true (by omega)
        obtain ⟨g4, o4, k', t', mv', lv', rfl, -, -, hati, e0, e1, e2, e3, o1', o2'⟩ := HA.out.get j hlt
        have htk := HTK.out j hlt
        have z1 : (#[.int .i64 k', .string t', mv', lv'] : Array Value).all (·.oneCell') = true := by simp [Value.oneCell'] at o1' o2' ⊢; exact ⟨o1', o2'⟩
        have HATI := Lib.hid hati
        clear hati
        go_upto_region 7 with (refine wpList_store_row rfl 28 _ _ rfl wr.heap.size #[.int .i64 k', .string t', mv', lv'] rfl rfl 28 Z4 (alloc_at _ _) info28 rfl z1 ?_)
        try simp only [Act.put]
        have EE : (wr.alloc (.cells #[.int .i64 0, .string ⟨#[]⟩, .slice none 0 0, .slice none 0 0] 28)).setRow wr.heap.size #[.int .i64 k', .string t', mv', lv'] = wr.alloc (.cells #[.int .i64 k', .string t', mv', lv'] 28) := setRow_new _ _ _ _
        try rw [EE]
        clear EE e0 e1 e2 e3
        have F0 := (Below.refl wr.heap.size wr).alloc (Nat.le_refl _) (.cells #[.int .i64 k', .string t', mv', lv'] 28)
        have F1 := Lib.hid F0
        have F4 := Lib.hid (alloc_at wr (.cells #[.int .i64 k', .string t', mv', lv'] 28))
        have FA := Lib.hid (Et.At.keeps (Keeps.of_below F0) _ _ HATI.out)
        have F6 : Hid ((wr.alloc (.cells #[.int .i64 k', .string t', mv', lv'] 28)).heap.size = wr.heap.size + 1) := by show _ = _; simp
        have HC := Lib.hid (IH.out a[j] (List.getElem_mem hlt) _ _ _ g m FA.out (HNK.out.below F0) hg0 (HTR.out.below F0) (by omega))
        generalize wr.alloc (.cells #[.int .i64 k', .string t', mv', lv'] 28) = W3 at F1 F4 FA F6 HC ⊢
        obtain ⟨p9, hp9⟩ : ∃ p9, p9 = wr.heap.size := ⟨_, rfl⟩
        rw [← hp9] at F4 F6
        simp only [← hp9]
        have hp90 : 0 ≠ p9 := by omega
        have HP9 := Lib.hid hp9
        clear F0 hp9
        go_wp2_with (refine wpList_load_row rfl 28 _ rfl p9 rfl 28 #[.int .i64 k', .string t', mv', lv'] (0, 0) _ F4.out Tryd.underlying28 rfl info28 ?_)
        refine HC.out.mono ?_
        rintro r w7 ⟨cs7, rfl, hat7, hnk7, hbut7⟩
        obtain ⟨k5, t5, no5, nn5, nc5, ao6, an6, ac6, rfl⟩ := EAt_sl hat7
        have hp9g : p9 ≠ g := by have := HP9.out; omega
        have hr7 : w7.heap[p9]? = some (.cells #[.int .i64 k', .string t', mv', lv'] 28 (0, 0)) := by rw [hbut7.block p9 (by rw [F6.out]; omega) hp9g]; exact F4.out
        have HR7 := Lib.hid hr7
        have z5 : (#[.int .i64 k5, .string t5, .slice no5 nn5 nc5, .slice ao6 an6 ac6] : Array Value).all (·.oneCell') = true := by simp [Value.oneCell']
        obtain ⟨x5, hx5⟩ : ∃ x5, x5 = (a[j].nrm m).2 := ⟨_, rfl⟩
        obtain ⟨m5, hm5⟩ : ∃ m5, m5 = (a[j].nrm m).1 := ⟨_, rfl⟩
        rw [← hx5] at hat7
        rw [← hm5] at hnk7
        have hmc : m5 = m + a[j].thick := by rw [hm5]; exact (nrm_f a[j] m).cnt
        have HX5 := Lib.hid hx5
        have HM5 := Lib.hid hm5
        have hM : Mid W2 g ge wr.heap.size k t (.slice no' ns.length nc') (.slice ao5 made.length ac5) (.slice vo vals.length vc) made vals m5 x5 #[.int .i64 k5, .string t5, .slice no5 nn5 nc5, .slice ao6 an6 ac6] (w7.setRow p9 #[.int .i64 k5, .string t5, .slice no5 nn5 nc5, .slice ao6 an6 ac6]) := by
          have hp := HP9.out
          subst hp
          have h9 := F6.out
          have h3 : But wr.heap.size g wr w7 := (But.of F1.out : But wr.heap.size g wr W3).trans (hbut7.mono (by omega))
          refine Mid.of HOW.out HVA.out HAPP.out HEB.out HBT.out hgW2 hgeb hneg (h3.setRow _ _ (Nat.le_refl _)) ?_ ?_ (setRow_heap _ _ _ _ 28 _ HR7.out)
          · unfold Nk
            rw [setRow_other w7 _ g _ (by omega)]; exact hnk7
          · refine Et.At.mono (fun x hx => ?_) _ _ (Et.At.keeps (S := fun x => W3.heap.size ≤ x) (fun x c T fz hx hxx _ => ⟨fz, by rw [setRow_other w7 _ x _ (by omega)]; exact hxx⟩) _ _ hat7)
            have : W3.heap.size ≤ x := hx
            omega
        rw [← HP9.out] at hM
        have HMID := Lib.hid hM
        have HTB : Hid (Tab (w7.setRow p9 #[.int .i64 k5, .string t5, .slice no5 nn5 nc5, .slice ao6 an6 ac6])) := by
          have h3 : Tab w7 := (HTR.out.below F1.out).but hbut7 (HTR.out.below F1.out).pos hg0
          exact h3.heap (setRow_other w7 p9 0 _ hp90)
        have hm100 : m5 ≤ 100000 := by omega
        clear hat7 hnk7 hbut7 hr7 hx5 hm5 hmc hM HC FA F4 F1 htk
        go_upto_region 8 with (refine wpList_store_row rfl 28 _ _ rfl p9 #[.int .i64 k5, .string t5, .slice no5 nn5 nc5, .slice ao6 an6 ac6] rfl rfl 28 _ HR7.out info28 rfl z5 ?_)
        try simp only [Act.put]
        generalize w7.setRow p9 #[.int .i64 k5, .string t5, .slice no5 nn5 nc5, .slice ao6 an6 ac6] = w8 at HMID HTB ⊢
        have hr8 : w8.heap[p9]? = some (.cells #[.int .i64 k5, .string t5, .slice no5 nn5 nc5, .slice ao6 an6 ac6] 28 (0, 0)) := HMID.out.row
        have HR8 := Lib.hid hr8
        have HSJ := Lib.hid (HSL.out j hlt)
        have HNL := Lib.hid (show Calls Tryd.prog 34 #[.agg #[.int .i64 k5, .string t5, .slice no5 nn5 nc5, .slice ao6 an6 ac6]] w8 (RetBool (!x5.atom) w8) from nameless_tells x5 _ _ w8 HMID.out.part)
        have HREL : Hid (∀ wz av' vv' q, (Et.nrms k t n 0 (a.take (j + 1))) = q → OwnQ W2.heap.size (QN av' vv') wz av' q.2.1 → OwnV W2.heap.size (QN av' vv') wz vv' q.2.2 → (∀ x, av'.ownBlock = some x → vv'.ownBlock ≠ some x) → EB wz ge k t (.slice no' ns.length nc') av' → Nk wz g q.1 → But2 W2.heap.size g ge W2 wz → TInv W2 g ge k t (.slice no' ns.length nc') a n vv' (.int .i64 ((j : Int) + 1)) wz) := by
          show ∀ wz av' vv' q, _ → _
          intro wz av' vv' q hq h1 h2 h3 h4 h5 h6
          subst hq
          exact ⟨j + 1, av', by omega, by go_num, h1, h2, h3, h4, h5, h6⟩
        clear hr8
        by_cases hfj : f ≤ j
        · have q2 : decide ((f : Int) ≤ (j : Int)) = true := decide_eq_true (by omega)
          obtain ⟨b, hb⟩ : ∃ b, x5.atom = b := ⟨_, rfl⟩
          rw [hb] at HNL
          go_wp2_with (first | (refine wpList_load_row rfl 28 _ rfl p9 rfl 28 #[.int .i64 k5, .string t5, .slice no5 nn5 nc5, .slice ao6 an6 ac6] (0, 0) _ HR8.out Tryd.underlying28 rfl info28 ?_) | (refine wpList_load_wanted (by rfl) 28 _ rfl p9 rfl 28 #[.int .i64 k5, .string t5, .slice no5 nn5 nc5, .slice ao6 an6 ac6] (0, 0) _ HR8.out Tryd.underlying28 rfl info28 ?_))
          refine HNL.out.mono ?_
          rintro r u8 ⟨rfl, hb8⟩
          replace HMID := Lib.hid (HMID.out.below hb8)
          replace HTB := Lib.hid (HTB.out.below hb8)
          have hs2 : slot k t (0 + (a.take j).length) = true := by rw [List.length_take, Nat.min_eq_left hj, Nat.zero_add, HSJ.out]; exact decide_eq_true hfj
          clear hb8 HNL HR8
          cases b
          · have hsn := HSN.out a[j]
            rw [← take_snoc_et a j hlt, ← HMM.out, ← HMD.out, ← HVL.out, ← HX5.out, ← HM5.out, hs2, hb] at hsn
            have HSN2 : Hid (Et.nrms k t n 0 (a.take (j + 1)) = (m5 + 1, made ++ [evar (pn (m5 + 1))], vals ++ [(pn (m5 + 1), x5)])) := hsn
            clear hsn HSN
            clear hb hs2
            go_upto_region 9 with fail
            have HXD : Hid (But u8.heap.size g u8 u8.drew) := (But.refl _ _ _).drew
            have HS0 : Hid (EB u8.drew p9 k5 t5 (.slice no5 nn5 nc5) (.slice ao6 an6 ac6)) := HMID.out.row
            have hmd : Nk u8.drew g m5 := HMID.out.nk
            have hgu8 : g < u8.heap.size := HMID.out.nk.lt
            have hpu8 : p9 < u8.heap.size := HMID.out.lt
            have HNX := Lib.hid (next_any g m5 u8.drew hmd hm100 HTB.out hg0)
            clear hmd
            refine wp_region_noPanic ?_
            refine wp_region_held_drew (S := fun w' => EB w' p9 k5 t5 (.slice no5 nn5 nc5) (.slice ao6 an6 ac6)) (by kernel_rfl) HS0.out (fun hHeld => ?_)
            generalize u8.drew = X9 at HS0 HXD HNX hHeld ⊢
            refine wpAnyH_take (i := 0) (v := Value.slice vo vals.length vc) rfl (by kernel_rfl) (by kernel_rfl) (by kernel_rfl) (fun _ _ _ h => h) (Or.inl ⟨rfl, fun w' hw' => ?_⟩) hHeld ?_
            · go_simp
            simp only [List.getElem_toArray, List.getElem_cons_succ, List.getElem_cons_zero, Act.put, List.setIfInBounds_toArray, List.set_cons_zero, List.set_cons_succ]
            refine wpAnyH_take (i := 1) (v := Value.pointer (some ⟨g, 0, none⟩)) rfl (by kernel_rfl) (by kernel_rfl) (by kernel_rfl) (fun _ _ _ h => h) (Or.inl ⟨rfl, fun w' hw' => ?_⟩) hHeld ?_
            · go_simp
            simp only [List.getElem_toArray, List.getElem_cons_succ, List.getElem_cons_zero, Act.put, List.setIfInBounds_toArray, List.set_cons_zero, List.set_cons_succ]
            refine wpAnyH_take (i := 2) (v := Value.pointer (some ⟨g, 0, none⟩)) rfl (by kernel_rfl) (by kernel_rfl) (by kernel_rfl) (fun _ _ _ h => h) (Or.inl ⟨rfl, fun w' hw' => ?_⟩) hHeld ?_
            · go_simp
            simp only [List.getElem_toArray, List.getElem_cons_succ, List.getElem_cons_zero, Act.put, List.setIfInBounds_toArray, List.set_cons_zero, List.set_cons_succ]
            refine wpAnyH_take (i := 3) (v := Value.pointer (some ⟨g, 0, none⟩)) rfl (by kernel_rfl) (by kernel_rfl) (by kernel_rfl) (fun _ _ _ h => h) (Or.inl ⟨rfl, fun w' hw' => ?_⟩) hHeld ?_
            · go_simp
            simp only [List.getElem_toArray, List.getElem_cons_succ, List.getElem_cons_zero, Act.put, List.setIfInBounds_toArray, List.set_cons_zero, List.set_cons_succ]
            refine wpAnyH_take (i := 5) (v := Value.agg #[.int .i64 k5, .string t5, .slice no5 nn5 nc5, .slice ao6 an6 ac6]) rfl (by kernel_rfl) (by kernel_rfl) (by kernel_rfl) (fun _ _ _ h => h) (Or.inl ⟨rfl, fun w' hw' => ?_⟩) hHeld ?_
            · obtain ⟨d0, d1, d2, d3⟩ := EB.cell _ _ _ _ _ _ hw'; go_simp
            simp only [List.getElem_toArray, List.getElem_cons_succ, List.getElem_cons_zero, Act.put, List.setIfInBounds_toArray, List.set_cons_zero, List.set_cons_succ]
            refine wpAnyH_ready (rs := [4]) (by kernel_rfl) (by simp) ?_
            refine (AllReadyH.cons rfl (fun K hK => ?_) AllReadyH.nil)
            go_simp
            refine HNX.out.mono ?_
            rintro r u9 ⟨rfl, hnk9, hbut9⟩
            have hb9 : But u8.heap.size g u8 u9 := HXD.out.trans (hbut9.mono HXD.out.size)
            have HM9 := Lib.hid (HMID.out.next hgW2 hneg hb9 hnk9)
            have HS9 : Hid (EB u9 p9 k5 t5 (.slice no5 nn5 nc5) (.slice ao6 an6 ac6)) := HM9.out.row
            obtain ⟨pnm, hpnm⟩ : ∃ x, x = pn (m5 + 1) := ⟨_, rfl⟩
            rw [← hpnm] at HSN2 ⊢
            obtain ⟨xsv, hov, hBv, hpush⟩ := HM9.out.push hgW2 hgeb rfl pnm #[.string pnm, .int .i64 k5, .string t5, .slice no5 nn5 nc5, .slice ao6 an6 ac6]
            have HOV := Lib.hid hov
            have HPU := Lib.hid hpush
            have HS7 : Hid (EB (u9.alloc (.cells #[.string pnm, .int .i64 k5, .string t5, .slice no5 nn5 nc5, .slice ao6 an6 ac6] 75)) p9 k5 t5 (.slice no5 nn5 nc5) (.slice ao6 an6 ac6)) := row_below ((Below.refl _ _).alloc (Nat.le_refl _) _) HS9.out
            have HPN := Lib.hid hpnm
            clear hnk9 hbut9 hb9 hov hpush hpnm
            refine hK.out _ _ HS9.out (fun hHeld => ?_)
            clear hK K
            try simp only [List.getElem_toArray, List.getElem_cons_succ, List.getElem_cons_zero, Act.put, List.setIfInBounds_toArray, List.set_cons_zero, List.set_cons_succ]
            refine wpAnyH_take (i := 6) (v := Value.agg #[.string pnm, .int .i64 k5, .string t5, .slice no5 nn5 nc5, .slice ao6 an6 ac6]) rfl (by kernel_rfl) (by kernel_rfl) (by kernel_rfl) (fun _ _ _ h => h) (Or.inl ⟨rfl, fun w' hw' => ?_⟩) hHeld ?_
            · go_simp
            simp only [List.getElem_toArray, List.getElem_cons_succ, List.getElem_cons_zero, Act.put, List.setIfInBounds_toArray, List.set_cons_zero, List.set_cons_succ]
            refine wpAnyH_ready (rs := [7]) (by kernel_rfl) (by simp) ?_
            refine (AllReadyH.cons rfl (fun K hK => ?_) AllReadyH.nil)
            go_simp
            refine hK.out _ _ HS7.out (fun hHeld => ?_)
            clear hK K
            try simp only [List.getElem_toArray, List.getElem_cons_succ, List.getElem_cons_zero, Act.put, List.setIfInBounds_toArray, List.set_cons_zero, List.set_cons_succ]
            refine wpAnyH_ready (rs := [8]) (by kernel_rfl) (by simp) ?_
            refine (AllReadyH.cons rfl (fun K hK => ?_) AllReadyH.nil)
            refine wp_appV (Operand.tmp 38) (Operand.tmp 45) rfl W2.heap.size (.slice vo vals.length vc) vals.length xsv rfl HOV.out u9.heap.size 1 rfl [.string pnm, .int .i64 k5, .string t5, .slice no5 nn5 nc5, .slice ao6 an6 ac6] rfl (row_cellsT _ 75 _) (by intro u hu; simp at hu; rcases hu with rfl | rfl | rfl | rfl | rfl <;> rfl) (by omega) hBv ?_
            intro vv' w11 hown11 hg11 hv11
            obtain ⟨hbut11, heb11, hrow11, ⟨gv, vc', rfl, hcv⟩, hmid12⟩ := HPU.out _ _ hown11 hg11 hv11
            have HS11 : Hid (EB w11 p9 k5 t5 (.slice no5 nn5 nc5) (.slice ao6 an6 ac6)) := hrow11
            have HR11 := Lib.hid hrow11
            have HMID3 := Lib.hid hmid12
            clear hown11 hg11 hv11 hmid12 heb11 hbut11 hrow11
            refine hK.out _ _ HS11.out (fun hHeld => ?_)
            clear hK K
            try simp only [List.getElem_toArray, List.getElem_cons_succ, List.getElem_cons_zero, Act.put, List.setIfInBounds_toArray, List.set_cons_zero, List.set_cons_succ]
            refine wpAnyH_take (i := 9) (v := Value.slice (some ⟨gv, 0, none⟩) (vals.length + 1) vc') rfl (by kernel_rfl) (by kernel_rfl) (by kernel_rfl) (fun _ _ _ h => h) (Or.inl ⟨rfl, fun w' hw' => ?_⟩) hHeld ?_
            · go_simp
            simp only [List.getElem_toArray, List.getElem_cons_succ, List.getElem_cons_zero, Act.put, List.setIfInBounds_toArray, List.set_cons_zero, List.set_cons_succ]
            refine wpAnyH_done (by kernel_rfl) ?_ _
            refine NoPanic.normal ?_
            clear hHeld
            have zv : (#[.int .i64 5, .string pnm, .slice none 0 0, .slice none 0 0] : Array Value).all (·.oneCell') = true := by simp [Value.oneCell']
            go_upto_region 11 with (refine wpList_store_row rfl 28 _ _ rfl p9 #[.int .i64 5, .string pnm, .slice none 0 0, .slice none 0 0] rfl rfl 28 _ HR11.out info28 rfl zv ?_)
            try simp only [Act.put]
            generalize w11.setRow p9 #[.int .i64 5, .string pnm, .slice none 0 0, .slice none 0 0] = w12 at HMID3 ⊢
            have HMID := HMID3
            clear HMID3 hcv HM9 HS9 HS7 HS11 HPU HOV HR11 HXD HS0 HNX HTB HTR
            obtain ⟨xs, hx8, hB8, c3, hc9⟩ := HMID.out.app hgW2 hgeb hneg rfl
            have HX8 := Lib.hid hx8
            have HC9 := Lib.hid hc9
            have hr8 : w12.heap[p9]? = some (.cells #[.int .i64 5, .string pnm, .slice none 0 0, .slice none 0 0] 28 (0, 0)) := HMID.out.row
            obtain ⟨f0, f1, f2, f3⟩ := EB.cell _ _ _ _ _ _ (show EB w12 p9 _ _ _ _ from hr8)
            have c3' : w12.cell? ⟨ge, 3, none⟩ = some (.slice ao5 made.length ac5) := (EB.cell _ _ _ _ _ _ HMID.out.eb).2.2.2
            have hml2 : made.length + 1 ≤ 1000000000 := by omega
            clear hx8 hc9 hr8 HMID
            go_wp2_with (at_builtin; refine wpList_app rfl (Operand.tmp 56) (Operand.tmp 58) rfl W2.heap.size (.slice ao5 made.length ac5) made.length xs rfl HX8.out w12.heap.size 1 rfl #[.int .i64 5, .string pnm, .slice none 0 0, .slice none 0 0].toList rfl (row_cellsT _ 28 _) (by intro u hu; simp at hu; rcases hu with rfl | rfl | rfl | rfl <;> rfl) hml2 hB8 ?_; intro av' w9 hown9 hg9 hv9; obtain ⟨ao', ac', rfl⟩ := own_form hown9; obtain ⟨c9, f9, hrest9⟩ := HC9.out _ _ hown9 hg9 hv9; have HRE := Lib.hid hrest9; clear hrest9 hown9 hg9 hv9)
            go_roundw
            case rel =>
              obtain ⟨h1, h2, h3, h4, h5, h6⟩ := HRE.out
              exact HREL.out _ _ _ _ HSN2.out h1 h2 h3 h4 h5 h6
            case measure => simp [intOf]; omega
          · have hsn := HSN.out a[j]
            rw [← take_snoc_et a j hlt, ← HMM.out, ← HMD.out, ← HVL.out, ← HX5.out, ← HM5.out, hs2, hb] at hsn
            have HSN2 : Hid (Et.nrms k t n 0 (a.take (j + 1)) = (m5, made ++ [x5], vals)) := hsn
            clear hsn HSN hb hs2
            obtain ⟨xs, hx8, hB8, c3, hc9⟩ := HMID.out.app hgW2 hgeb hneg rfl
            have HX8 := Lib.hid hx8
            have HC9 := Lib.hid hc9
            have hr8 : u8.heap[p9]? = some (.cells #[.int .i64 k5, .string t5, .slice no5 nn5 nc5, .slice ao6 an6 ac6] 28 (0, 0)) := HMID.out.row
            obtain ⟨f0, f1, f2, f3⟩ := EB.cell _ _ _ _ _ _ (show EB u8 p9 _ _ _ _ from hr8)
            have c3' : u8.cell? ⟨ge, 3, none⟩ = some (.slice ao5 made.length ac5) := (EB.cell _ _ _ _ _ _ HMID.out.eb).2.2.2
            have hml2 : made.length + 1 ≤ 1000000000 := by omega
            clear hx8 hc9 hr8 HMID
            go_wp2_with (at_builtin; refine wpList_app rfl (Operand.tmp 56) (Operand.tmp 58) rfl W2.heap.size (.slice ao5 made.length ac5) made.length xs rfl HX8.out u8.heap.size 1 rfl #[.int .i64 k5, .string t5, .slice no5 nn5 nc5, .slice ao6 an6 ac6].toList rfl (row_cellsT _ 28 _) (by intro u hu; simp at hu; rcases hu with rfl | rfl | rfl | rfl <;> rfl) hml2 hB8 ?_; intro av' w9 hown9 hg9 hv9; obtain ⟨ao', ac', rfl⟩ := own_form hown9; obtain ⟨c9, f9, hrest9⟩ := HC9.out _ _ hown9 hg9 hv9; have HRE := Lib.hid hrest9; clear hrest9 hown9 hg9 hv9)
            go_roundw
            case rel =>
              obtain ⟨h1, h2, h3, h4, h5, h6⟩ := HRE.out
              exact HREL.out _ _ _ _ HSN2.out h1 h2 h3 h4 h5 h6
            case measure => simp [intOf]; omega
        · have q2 : decide ((f : Int) ≤ (j : Int)) = false := decide_eq_false (by omega)
          have hs2 : slot k t (0 + (a.take j).length) = false := by rw [List.length_take, Nat.min_eq_left hj, Nat.zero_add, HSJ.out]; exact decide_eq_false hfj
          have hsn := HSN.out a[j]
          rw [← take_snoc_et a j hlt, ← HMM.out, ← HMD.out, ← HVL.out, ← HX5.out, ← HM5.out, hs2] at hsn
          have HSN2 : Hid (Et.nrms k t n 0 (a.take (j + 1)) = (m5, made ++ [x5], vals)) := hsn
          clear hsn HSN HNL hs2 HR8
          obtain ⟨xs, hx8, hB8, c3, hc9⟩ := HMID.out.app hgW2 hgeb hneg rfl
          have HX8 := Lib.hid hx8
          have HC9 := Lib.hid hc9
          have hr8 : w8.heap[p9]? = some (.cells #[.int .i64 k5, .string t5, .slice no5 nn5 nc5, .slice ao6 an6 ac6] 28 (0, 0)) := HMID.out.row
          obtain ⟨f0, f1, f2, f3⟩ := EB.cell _ _ _ _ _ _ (show EB w8 p9 _ _ _ _ from hr8)
          have c3' : w8.cell? ⟨ge, 3, none⟩ = some (.slice ao5 made.length ac5) := (EB.cell _ _ _ _ _ _ HMID.out.eb).2.2.2
          have hml2 : made.length + 1 ≤ 1000000000 := by omega
          clear hx8 hc9 hr8 HMID
          go_wp2_with (at_builtin; refine wpList_app rfl (Operand.tmp 56) (Operand.tmp 58) rfl W2.heap.size (.slice ao5 made.length ac5) made.length xs rfl HX8.out w8.heap.size 1 rfl #[.int .i64 k5, .string t5, .slice no5 nn5 nc5, .slice ao6 an6 ac6].toList rfl (row_cellsT _ 28 _) (by intro u hu; simp at hu; rcases hu with rfl | rfl | rfl | rfl <;> rfl) hml2 hB8 ?_; intro av' w9 hown9 hg9 hv9; obtain ⟨ao', ac', rfl⟩ := own_form hown9; obtain ⟨c9, f9, hrest9⟩ := HC9.out _ _ hown9 hg9 hv9; have HRE := Lib.hid hrest9; clear hrest9 hown9 hg9 hv9)
          go_roundw
          case rel =>
            obtain ⟨h1, h2, h3, h4, h5, h6⟩ := HRE.out
            exact HREL.out _ _ _ _ HSN2.out h1 h2 h3 h4 h5 h6
          case measure => simp [intOf]; omega
      · have q1 : decide ((j : Int) < (a.length : Int)) = false := decide_eq_false (by omega)
        obtain rfl : j = a.length := by omega
        have hta : a.take a.length = a := List.take_length
        have hmd := HMD.out
        have hvl := HVL.out
        have hmm := HMM.out
        rw [hta] at hmd hvl hmm
        have hnt : NAt (fun x => W1.heap.size ≤ x) wr (.slice no' ns.length nc') ns := by
          have h1 := (HXN.out.at).bound
          refine NAt.mono (NAt.keeps (S := fun x => (W1.heap.size ≤ x ∧ (Value.slice no' ns.length nc').ownBlock = some x) ∧ x < W2.heap.size) h1 (fun x c T fz hx hxx _ => ⟨fz, ?_⟩)) (fun x hx => hx.1.1)
          rw [HBT.out.block x hx.2 (by have := hx.1.1; omega) (HAP.out x hx.1.2)]; exact hxx
        have hat : Et.At (fun x => W1.heap.size ≤ x) wr (.mk k t ns made) #[.int .i64 k, .string t, (.slice no' ns.length nc'), .slice ao5 made.length ac5] := by
          rw [EAt_mk]
          exact ⟨_, _, rfl, hnt, HOW.out.at.mono (fun x hx => by have : W2.heap.size ≤ x := hx; omega)⟩
        have hvt : VAt (fun x => W1.heap.size ≤ x) wr (.slice vo vals.length vc) vals := by
          rcases HVA.out.at with h | ⟨g1, o1, cap, arr, fz, h1, h2, h3, h4⟩
          · exact .inl h
          · exact .inr ⟨g1, o1, cap, arr, fz, h1, h2, h3, fun i hi => by
              obtain ⟨cs, c1, c2, c3, c4⟩ := h4 i hi
              exact ⟨cs, c1, c2, c3, Et.At.mono (fun x hx => by have : W2.heap.size ≤ x := hx; omega) _ _ c4⟩⟩
        have HW := Lib.hid (lets_any (.mk k t ns made) vals _ _ _ wr hat hvt hLv)
        have hgr7 : wr.heap[gr]? = some (.cells Z4 28 (0, 0)) := by rw [HB1r.out.block gr hgr1 (by omega)]; exact HZ.out
        have HGR7 := Lib.hid hgr7
        have hlets : (Et.mk k t ns a).nrm n = (m, lets vals (.mk k t ns made)) := by rw [HEQ.out, ← hmd, ← hvl, ← hmm]
        have HLT := Lib.hid hlets
        clear hta hmd hvl hmm hnt hat hvt hgr7 hlets HMD HVL HMM
        go_wp2_with (refine wpList_load_row rfl 28 _ rfl ge rfl 28 #[.int .i64 k, .string t, (.slice no' ns.length nc'), .slice ao5 made.length ac5] (0, 0) _ HEB.out Tryd.underlying28 rfl info28 ?_)
        refine HW.out.mono ?_
        rintro r w5 ⟨cs5, rfl, hat5, hb5⟩
        obtain ⟨k5, t5, no5, nn5, nc5, ao6, an6, ac6, rfl⟩ := EAt_sl hat5
        have HZ5 : Hid (w5.heap[gr]? = some (.cells Z4 28 (0, 0))) := row_below hb5 HGR7.out
        have z5 : (#[.int .i64 k5, .string t5, .slice no5 nn5 nc5, .slice ao6 an6 ac6] : Array Value).all (·.oneCell') = true := by simp [Value.oneCell']
        have HFIN : Hid (RetNrm (.mk k t ns a) n g w (.returned (.agg #[.int .i64 k5, .string t5, .slice no5 nn5 nc5, .slice ao6 an6 ac6])) (w5.setRow gr #[.int .i64 k5, .string t5, .slice no5 nn5 nc5, .slice ao6 an6 ac6])) := by
          refine nt_end HB1.out HXB.out HBT.out hgrw hgr1 hge8 hgw ?_ ?_ hb5
          · rw [HLT.out]; exact HNK.out
          · rw [HLT.out]; exact hat5
        clear hat5 hb5 HW
        go_wp2_with (refine wpList_store_row rfl 28 _ _ rfl gr #[.int .i64 k5, .string t5, .slice no5 nn5 nc5, .slice ao6 an6 ac6] rfl rfl 28 Z4 HZ5.out info28 rfl z5 ?_)
        refine bodyPost_ret (results_cell_row rfl _ _ gr 28 #[.int .i64 k5, .string t5, .slice no5 nn5 nc5, .slice ao6 an6 ac6] (0, 0) _ rfl (setRow_heap w5 _ _ _ 28 _ HZ5.out) Tryd.underlying28 rfl info28) rfl ?_
        exact HFIN.out
  · skip
    have HB8 : Hid (Below W1.heap.size W1 (X.alloc (.cells Z4 28))) := HX.out.alloc HX.out.size _
    have HZ8 : Hid ((X.alloc (.cells Z4 28)).heap[X.heap.size]? = some (.cells Z4 28 (0, 0))) := alloc_at X _
    have hge8 : W1.heap.size ≤ X.heap.size := HX.out.size
    go_simp
    refine hK.out _ _ HB8.out (fun hHeld => ?_)
    clear hK K
    try simp only [List.getElem_toArray, List.getElem_cons_succ, List.getElem_cons_zero, Act.put, List.setIfInBounds_toArray, List.set_cons_zero, List.set_cons_succ]
    refine wpAnyH_ready (rs := [6]) (by kernel_rfl) (by simp) ?_
    refine (AllReadyH.cons rfl (fun K hK => ?_) AllReadyH.nil)
    have HM6 := Lib.hid (HM.out.keeps (Keeps.of_below HB8.out))
    refine wp_appN0 (Operand.const (.slice none 0 0)) (Operand.tmp 15) rfl W1.heap.size rfl _ ns rfl HM6.out (by omega) HB8.out.size ?_
    intro v' w6 hown6 hg6
    obtain ⟨no', nc', rfl⟩ := own_form hown6
    have HB6 : Hid (Below W1.heap.size W1 w6) := HB8.out.grown hg6 HB8.out.size (fun x hx => by cases hx)
    have HN6 := Lib.hid hown6
    have HZ6 : Hid (w6.heap[X.heap.size]? = some (.cells Z4 28 (0, 0))) := (hg6.block _ (by simp) (fun e => by cases e)).trans HZ8.out
    clear hown6 hg6
    refine hK.out _ _ HB6.out (fun hHeld => ?_)
    clear hK K
    try simp only [List.getElem_toArray, List.getElem_cons_succ, List.getElem_cons_zero, Act.put, List.setIfInBounds_toArray, List.set_cons_zero, List.set_cons_succ]
    refine wpAnyH_take (i := 7) (v := Value.agg #[.int .i64 k, .string t, .slice no' ns.length nc', .slice none 0 0]) rfl (by kernel_rfl) (by kernel_rfl) (by kernel_rfl) (fun _ _ _ h => h) (Or.inl ⟨rfl, fun w' hw' => ?_⟩) hHeld ?_
    · go_simp
    simp only [List.getElem_toArray, List.getElem_cons_succ, List.getElem_cons_zero, Act.put, List.setIfInBounds_toArray, List.set_cons_zero, List.set_cons_succ]
    obtain ⟨x1, x2, x3, hgeb, hap⟩ := nt_start (k := k) (t := t) HB6.out HZ6.out hge8 HN6.out
    have HXB := Lib.hid x1
    have HXN := Lib.hid x2
    have HE0 := Lib.hid x3
    have hone : (#[.int .i64 k, .string t, .slice no' ns.length nc', .slice none 0 0] : Array Value).all (·.oneCell') = true := by simp [Value.oneCell']
    clear x1 x2 x3
    refine wpAnyH_ready (rs := [9]) (by kernel_rfl) (by simp) ?_
    refine (AllReadyH.cons rfl (fun K hK => ?_) AllReadyH.nil)
    refine wp_store_row 28 _ _ rfl (X.heap.size) #[.int .i64 k, .string t, .slice no' ns.length nc', .slice none 0 0] (by go_simp) rfl 28 Z4 HZ6.out info28 rfl hone ?_
    refine hK.out _ _ HXB.out (fun hHeld => ?_)
    clear hK K
    try simp only [List.getElem_toArray, List.getElem_cons_succ, List.getElem_cons_zero, Act.put, List.setIfInBounds_toArray, List.set_cons_zero, List.set_cons_succ]
    refine wpAnyH_done (by kernel_rfl) ?_ _
    refine NoPanic.normal ?_
    clear hHeld
    generalize w6.setRow X.heap.size #[.int .i64 k, .string t, .slice no' ns.length nc', .slice none 0 0] = W0 at HXB HXN HE0 hgeb ⊢
    generalize X.heap.size = ge at HE0 hgeb hge8 hap ⊢
    have HAP := Lib.hid hap
    clear hap hone
    have hneg : ge ≠ g := by omega
    have HN0 := Lib.hid (HN1.out.below HXB.out)
    have HG0 : Hid (W0.heap[gs]? = some (.cells #[.int .i64 k, .string t, .slice no ns.length nc, .slice ao a.length ac] 28 (0, 0))) := row_below HXB.out HRW.out
    go_wp2_with (refine wpList_load_row rfl 28 _ rfl gs rfl 28 #[.int .i64 k, .string t, .slice no ns.length nc, .slice ao a.length ac] (0, 0) _ HG0.out Tryd.underlying28 rfl info28 ?_)
    refine (HFI.out _).mono ?_
    rintro r W2 ⟨rfl, hb2⟩
    replace HXB := Lib.hid (HXB.out.trans (hb2.mono HXB.out.size))
    replace HXN := Lib.hid (HXN.out.below hb2)
    replace HE0 : Hid (EB W2 ge k t (.slice no' ns.length nc') (.slice none 0 0)) := row_below hb2 HE0.out
    replace HN0 := Lib.hid (HN0.out.below hb2)
    replace hgeb : ge < W2.heap.size := Nat.lt_of_lt_of_le hgeb hb2.size
    clear hb2 HG0 HFI
    have hW01 : W1.heap.size ≤ W2.heap.size := HXB.out.size
    have hgW2 : g < W2.heap.size := by omega
    obtain ⟨-, -, -, cs3⟩ := HCS.out W2 HXB.out
    go_wp2_with fail
    go_loopw [7, 23] (fun vv iv wr => TInv W2 g ge k t (.slice no' ns.length nc') a n vv iv wr) (fun _ iv _ => a.length - (intOf iv).toNat)
    case atStart => exact nt_zero HE0.out HN0.out
    case round =>
      clear cs3
      obtain ⟨j, av, hj, rfl, hown, hval, hap, heb, hnk, hbut⟩ := hrel
      have HSN := Lib.hid (fun e => nrms_snoc k t e (a.take j) n 0)
      have hcn := HCN.out j
      have hml := nrms_len k t (a.take j) n 0
      rw [List.length_take, Nat.min_eq_left hj] at hml
      obtain ⟨made, hmade⟩ : ∃ x, x = (Et.nrms k t n 0 (a.take j)).2.1 := ⟨_, rfl⟩
      obtain ⟨vals, hvals⟩ : ∃ x, x = (Et.nrms k t n 0 (a.take j)).2.2 := ⟨_, rfl⟩
      obtain ⟨m, hm⟩ : ∃ x, x = (Et.nrms k t n 0 (a.take j)).1 := ⟨_, rfl⟩
      rw [← hmade] at hown hml
      rw [← hvals] at hval
      rw [← hm] at hnk hcn
      obtain ⟨vo, vc, rfl⟩ := hval.form
      obtain ⟨ao5, ac5, rfl⟩ := hown.form
      have hs0 := hbut.size
      have hB1 : But W1.heap.size g W1 wr := (But.of HXB.out : But W1.heap.size g W1 W2).trans (hbut.to hW01 hge8)
      have HB1r := Lib.hid hB1
      have HA := Lib.hid (AAt.keeps HL.out (hB1.keeps fun x hx => hx.2))
      have HGS : Hid (EB wr gs k t (.slice no ns.length nc) (.slice ao a.length ac)) := by
        show EB _ _ _ _ _ _
        unfold EB
        rw [hB1.block gs hgs1 hggs]; exact HRW.out
      have HTR := Lib.hid (HT1.out.but hB1 (by omega) hg0)
      have HOW := Lib.hid hown
      have HVA := Lib.hid hval
      have HAPP := Lib.hid hap
      have HEB := Lib.hid heb
      have HNK := Lib.hid hnk
      have HBT := Lib.hid hbut
      have HMD := Lib.hid hmade
      have HVL := Lib.hid hvals
      have HMM := Lib.hid hm
      have hgwr : g < wr.heap.size := by omega
      have hml3 : made.length ≤ 100000 := by omega
      have hLv : vals.length ≤ 100000 := by rw [hvals]; have := vals_len k t (a.take j) n 0; rw [List.length_take] at this; omega
      clear hown hval hap heb hnk hbut hmade hvals hm hB1 hml
      by_cases hlt : j < a.length
      · have q1 : decide ((j : Int) < (a.length : Int)) = true := decide_eq_true (by omega)
        obtain ⟨g4, o4, k', t', mv', lv', rfl, -, -, hati, e0, e1, e2, e3, o1', o2'⟩ := HA.out.get j hlt
        have htk := HTK.out j hlt
        have z1 : (#[.int .i64 k', .string t', mv', lv'] : Array Value).all (·.oneCell') = true := by simp [Value.oneCell'] at o1' o2' ⊢; exact ⟨o1', o2'⟩
        have HATI := Lib.hid hati
        clear hati
        go_upto_region 7 with (refine wpList_store_row rfl 28 _ _ rfl wr.heap.size #[.int .i64 k', .string t', mv', lv'] rfl rfl 28 Z4 (alloc_at _ _) info28 rfl z1 ?_)
        try simp only [Act.put]
        have EE : (wr.alloc (.cells #[.int .i64 0, .string ⟨#[]⟩, .slice none 0 0, .slice none 0 0] 28)).setRow wr.heap.size #[.int .i64 k', .string t', mv', lv'] = wr.alloc (.cells #[.int .i64 k', .string t', mv', lv'] 28) := setRow_new _ _ _ _
        try rw [EE]
        clear EE e0 e1 e2 e3
        have F0 := (Below.refl wr.heap.size wr).alloc (Nat.le_refl _) (.cells #[.int .i64 k', .string t', mv', lv'] 28)
        have F1 := Lib.hid F0
        have F4 := Lib.hid (alloc_at wr (.cells #[.int .i64 k', .string t', mv', lv'] 28))
        have FA := Lib.hid (Et.At.keeps (Keeps.of_below F0) _ _ HATI.out)
        have F6 : Hid ((wr.alloc (.cells #[.int .i64 k', .string t', mv', lv'] 28)).heap.size = wr.heap.size + 1) := by show _ = _; simp
        have HC := Lib.hid (IH.out a[j] (List.getElem_mem hlt) _ _ _ g m FA.out (HNK.out.below F0) hg0 (HTR.out.below F0) (by omega))
        generalize wr.alloc (.cells #[.int .i64 k', .string t', mv', lv'] 28) = W3 at F1 F4 FA F6 HC ⊢
        obtain ⟨p9, hp9⟩ : ∃ p9, p9 = wr.heap.size := ⟨_, rfl⟩
        rw [← hp9] at F4 F6
        simp only [← hp9]
        have hp90 : 0 ≠ p9 := by omega
        have HP9 := Lib.hid hp9
        clear F0 hp9
        go_wp2_with (refine wpList_load_row rfl 28 _ rfl p9 rfl 28 #[.int .i64 k', .string t', mv', lv'] (0, 0) _ F4.out Tryd.underlying28 rfl info28 ?_)
        refine HC.out.mono ?_
        rintro r w7 ⟨cs7, rfl, hat7, hnk7, hbut7⟩
        obtain ⟨k5, t5, no5, nn5, nc5, ao6, an6, ac6, rfl⟩ := EAt_sl hat7
        have hp9g : p9 ≠ g := by have := HP9.out; omega
        have hr7 : w7.heap[p9]? = some (.cells #[.int .i64 k', .string t', mv', lv'] 28 (0, 0)) := by rw [hbut7.block p9 (by rw [F6.out]; omega) hp9g]; exact F4.out
        have HR7 := Lib.hid hr7
        have z5 : (#[.int .i64 k5, .string t5, .slice no5 nn5 nc5, .slice ao6 an6 ac6] : Array Value).all (·.oneCell') = true := by simp [Value.oneCell']
        obtain ⟨x5, hx5⟩ : ∃ x5, x5 = (a[j].nrm m).2 := ⟨_, rfl⟩
        obtain ⟨m5, hm5⟩ : ∃ m5, m5 = (a[j].nrm m).1 := ⟨_, rfl⟩
        rw [← hx5] at hat7
        rw [← hm5] at hnk7
        have hmc : m5 = m + a[j].thick := by rw [hm5]; exact (nrm_f a[j] m).cnt
        have HX5 := Lib.hid hx5
        have HM5 := Lib.hid hm5
        have hM : Mid W2 g ge wr.heap.size k t (.slice no' ns.length nc') (.slice ao5 made.length ac5) (.slice vo vals.length vc) made vals m5 x5 #[.int .i64 k5, .string t5, .slice no5 nn5 nc5, .slice ao6 an6 ac6] (w7.setRow p9 #[.int .i64 k5, .string t5, .slice no5 nn5 nc5, .slice ao6 an6 ac6]) := by
          have hp := HP9.out
          subst hp
          have h9 := F6.out
          have h3 : But wr.heap.size g wr w7 := (But.of F1.out : But wr.heap.size g wr W3).trans (hbut7.mono (by omega))
          refine Mid.of HOW.out HVA.out HAPP.out HEB.out HBT.out hgW2 hgeb hneg (h3.setRow _ _ (Nat.le_refl _)) ?_ ?_ (setRow_heap _ _ _ _ 28 _ HR7.out)
          · unfold Nk
            rw [setRow_other w7 _ g _ (by omega)]; exact hnk7
          · refine Et.At.mono (fun x hx => ?_) _ _ (Et.At.keeps (S := fun x => W3.heap.size ≤ x) (fun x c T fz hx hxx _ => ⟨fz, by rw [setRow_other w7 _ x _ (by omega)]; exact hxx⟩) _ _ hat7)
            have : W3.heap.size ≤ x := hx
            omega
        rw [← HP9.out] at hM
        have HMID := Lib.hid hM
        have HTB : Hid (Tab (w7.setRow p9 #[.int .i64 k5, .string t5, .slice no5 nn5 nc5, .slice ao6 an6 ac6])) := by
          have h3 : Tab w7 := (HTR.out.below F1.out).but hbut7 (HTR.out.below F1.out).pos hg0
          exact h3.heap (setRow_other w7 p9 0 _ hp90)
        have hm100 : m5 ≤ 100000 := by omega
        clear hat7 hnk7 hbut7 hr7 hx5 hm5 hmc hM HC FA F4 F1 htk
        go_upto_region 8 with (refine wpList_store_row rfl 28 _ _ rfl p9 #[.int .i64 k5, .string t5, .slice no5 nn5 nc5, .slice ao6 an6 ac6] rfl rfl 28 _ HR7.out info28 rfl z5 ?_)
        try simp only [Act.put]
        generalize w7.setRow p9 #[.int .i64 k5, .string t5, .slice no5 nn5 nc5, .slice ao6 an6 ac6] = w8 at HMID HTB ⊢
        have hr8 : w8.heap[p9]? = some (.cells #[.int .i64 k5, .string t5, .slice no5 nn5 nc5, .slice ao6 an6 ac6] 28 (0, 0)) := HMID.out.row
        have HR8 := Lib.hid hr8
        have HSJ := Lib.hid (HSL.out j hlt)
        have HNL := Lib.hid (show Calls Tryd.prog 34 #[.agg #[.int .i64 k5, .string t5, .slice no5 nn5 nc5, .slice ao6 an6 ac6]] w8 (RetBool (!x5.atom) w8) from nameless_tells x5 _ _ w8 HMID.out.part)
        have HREL : Hid (∀ wz av' vv' q, (Et.nrms k t n 0 (a.take (j + 1))) = q → OwnQ W2.heap.size (QN av' vv') wz av' q.2.1 → OwnV W2.heap.size (QN av' vv') wz vv' q.2.2 → (∀ x, av'.ownBlock = some x → vv'.ownBlock ≠ some x) → EB wz ge k t (.slice no' ns.length nc') av' → Nk wz g q.1 → But2 W2.heap.size g ge W2 wz → TInv W2 g ge k t (.slice no' ns.length nc') a n vv' (.int .i64 ((j : Int) + 1)) wz) := by
          show ∀ wz av' vv' q, _ → _
          intro wz av' vv' q hq h1 h2 h3 h4 h5 h6
          subst hq
          exact ⟨j + 1, av', by omega, by go_num, h1, h2, h3, h4, h5, h6⟩
        clear hr8
        by_cases hfj : f ≤ j
        · have q2 : decide ((f : Int) ≤ (j : Int)) = true := decide_eq_true (by omega)
          obtain ⟨b, hb⟩ : ∃ b, x5.atom = b := ⟨_, rfl⟩
          rw [hb] at HNL
          go_wp2_with (first | (refine wpList_load_row rfl 28 _ rfl p9 rfl 28 #[.int .i64 k5, .string t5, .slice no5 nn5 nc5, .slice ao6 an6 ac6] (0, 0) _ HR8.out Tryd.underlying28 rfl info28 ?_) | (refine wpList_load_wanted (by rfl) 28 _ rfl p9 rfl 28 #[.int .i64 k5, .string t5, .slice no5 nn5 nc5, .slice ao6 an6 ac6] (0, 0) _ HR8.out Tryd.underlying28 rfl info28 ?_))
          refine HNL.out.mono ?_
          rintro r u8 ⟨rfl, hb8⟩
          replace HMID := Lib.hid (HMID.out.below hb8)
          replace HTB := Lib.hid (HTB.out.below hb8)
          have hs2 : slot k t (0 + (a.take j).length) = true := by rw [List.length_take, Nat.min_eq_left hj, Nat.zero_add, HSJ.out]; exact decide_eq_true hfj
          clear hb8 HNL HR8
          cases b
          · have hsn := HSN.out a[j]
            rw [← take_snoc_et a j hlt, ← HMM.out, ← HMD.out, ← HVL.out, ← HX5.out, ← HM5.out, hs2, hb] at hsn
            have HSN2 : Hid (Et.nrms k t n 0 (a.take (j + 1)) = (m5 + 1, made ++ [evar (pn (m5 + 1))], vals ++ [(pn (m5 + 1), x5)])) := hsn
            clear hsn HSN
            clear hb hs2
            go_upto_region 9 with fail
            have HXD : Hid (But u8.heap.size g u8 u8.drew) := (But.refl _ _ _).drew
            have HS0 : Hid (EB u8.drew p9 k5 t5 (.slice no5 nn5 nc5) (.slice ao6 an6 ac6)) := HMID.out.row
            have hmd : Nk u8.drew g m5 := HMID.out.nk
            have hgu8 : g < u8.heap.size := HMID.out.nk.lt
            have hpu8 : p9 < u8.heap.size := HMID.out.lt
            have HNX := Lib.hid (next_any g m5 u8.drew hmd hm100 HTB.out hg0)
            clear hmd
            refine wp_region_noPanic ?_
            refine wp_region_held_drew (S := fun w' => EB w' p9 k5 t5 (.slice no5 nn5 nc5) (.slice ao6 an6 ac6)) (by kernel_rfl) HS0.out (fun hHeld => ?_)
            generalize u8.drew = X9 at HS0 HXD HNX hHeld ⊢
            refine wpAnyH_take (i := 0) (v := Value.slice vo vals.length vc) rfl (by kernel_rfl) (by kernel_rfl) (by kernel_rfl) (fun _ _ _ h => h) (Or.inl ⟨rfl, fun w' hw' => ?_⟩) hHeld ?_
            · go_simp
            simp only [List.getElem_toArray, List.getElem_cons_succ, List.getElem_cons_zero, Act.put, List.setIfInBounds_toArray, List.set_cons_zero, List.set_cons_succ]
            refine wpAnyH_take (i := 1) (v := Value.pointer (some ⟨g, 0, none⟩)) rfl (by kernel_rfl) (by kernel_rfl) (by kernel_rfl) (fun _ _ _ h => h) (Or.inl ⟨rfl, fun w' hw' => ?_⟩) hHeld ?_
            · go_simp
            simp only [List.getElem_toArray, List.getElem_cons_succ, List.getElem_cons_zero, Act.put, List.setIfInBounds_toArray, List.set_cons_zero, List.set_cons_succ]
            refine wpAnyH_take (i := 2) (v := Value.pointer (some ⟨g, 0, none⟩)) rfl (by kernel_rfl) (by kernel_rfl) (by kernel_rfl) (fun _ _ _ h => h) (Or.inl ⟨rfl, fun w' hw' => ?_⟩) hHeld ?_
            · go_simp
            simp only [List.getElem_toArray, List.getElem_cons_succ, List.getElem_cons_zero, Act.put, List.setIfInBounds_toArray, List.set_cons_zero, List.set_cons_succ]
            refine wpAnyH_take (i := 3) (v := Value.pointer (some ⟨g, 0, none⟩)) rfl (by kernel_rfl) (by kernel_rfl) (by kernel_rfl) (fun _ _ _ h => h) (Or.inl ⟨rfl, fun w' hw' => ?_⟩) hHeld ?_
            · go_simp
            simp only [List.getElem_toArray, List.getElem_cons_succ, List.getElem_cons_zero, Act.put, List.setIfInBounds_toArray, List.set_cons_zero, List.set_cons_succ]
            refine wpAnyH_take (i := 5) (v := Value.agg #[.int .i64 k5, .string t5, .slice no5 nn5 nc5, .slice ao6 an6 ac6]) rfl (by kernel_rfl) (by kernel_rfl) (by kernel_rfl) (fun _ _ _ h => h) (Or.inl ⟨rfl, fun w' hw' => ?_⟩) hHeld ?_
            · obtain ⟨d0, d1, d2, d3⟩ := EB.cell _ _ _ _ _ _ hw'; go_simp
            simp only [List.getElem_toArray, List.getElem_cons_succ, List.getElem_cons_zero, Act.put, List.setIfInBounds_toArray, List.set_cons_zero, List.set_cons_succ]
            refine wpAnyH_ready (rs := [4]) (by kernel_rfl) (by simp) ?_
            refine (AllReadyH.cons rfl (fun K hK => ?_) AllReadyH.nil)
            go_simp
            refine HNX.out.mono ?_
            rintro r u9 ⟨rfl, hnk9, hbut9⟩
            have hb9 : But u8.heap.size g u8 u9 := HXD.out.trans (hbut9.mono HXD.out.size)
            have HM9 := Lib.hid (HMID.out.next hgW2 hneg hb9 hnk9)
            have HS9 : Hid (EB u9 p9 k5 t5 (.slice no5 nn5 nc5) (.slice ao6 an6 ac6)) := HM9.out.row
            obtain ⟨pnm, hpnm⟩ : ∃ x, x = pn (m5 + 1) := ⟨_, rfl⟩
            rw [← hpnm] at HSN2 ⊢
            obtain ⟨xsv, hov, hBv, hpush⟩ := HM9.out.push hgW2 hgeb rfl pnm #[.string pnm, .int .i64 k5, .string t5, .slice no5 nn5 nc5, .slice ao6 an6 ac6]
            have HOV := Lib.hid hov
            have HPU := Lib.hid hpush
            have HS7 : Hid (EB (u9.alloc (.cells #[.string pnm, .int .i64 k5, .string t5, .slice no5 nn5 nc5, .slice ao6 an6 ac6] 75)) p9 k5 t5 (.slice no5 nn5 nc5) (.slice ao6 an6 ac6)) := row_below ((Below.refl _ _).alloc (Nat.le_refl _) _) HS9.out
            have HPN := Lib.hid hpnm
            clear hnk9 hbut9 hb9 hov hpush hpnm
            refine hK.out _ _ HS9.out (fun hHeld => ?_)
            clear hK K
            try simp only [List.getElem_toArray, List.getElem_cons_succ, List.getElem_cons_zero, Act.put, List.setIfInBounds_toArray, List.set_cons_zero, List.set_cons_succ]
            refine wpAnyH_take (i := 6) (v := Value.agg #[.string pnm, .int .i64 k5, .string t5, .slice no5 nn5 nc5, .slice ao6 an6 ac6]) rfl (by kernel_rfl) (by kernel_rfl) (by kernel_rfl) (fun _ _ _ h => h) (Or.inl ⟨rfl, fun w' hw' => ?_⟩) hHeld ?_
            · go_simp
            simp only [List.getElem_toArray, List.getElem_cons_succ, List.getElem_cons_zero, Act.put, List.setIfInBounds_toArray, List.set_cons_zero, List.set_cons_succ]
            refine wpAnyH_ready (rs := [7]) (by kernel_rfl) (by simp) ?_
            refine (AllReadyH.cons rfl (fun K hK => ?_) AllReadyH.nil)
            go_simp
            refine hK.out _ _ HS7.out (fun hHeld => ?_)
            clear hK K
            try simp only [List.getElem_toArray, List.getElem_cons_succ, List.getElem_cons_zero, Act.put, List.setIfInBounds_toArray, List.set_cons_zero, List.set_cons_succ]
            refine wpAnyH_ready (rs := [8]) (by kernel_rfl) (by simp) ?_
            refine (AllReadyH.cons rfl (fun K hK => ?_) AllReadyH.nil)
            refine wp_appV (Operand.tmp 38) (Operand.tmp 45) rfl W2.heap.size (.slice vo vals.length vc) vals.length xsv rfl HOV.out u9.heap.size 1 rfl [.string pnm, .int .i64 k5, .string t5, .slice no5 nn5 nc5, .slice ao6 an6 ac6] rfl (row_cellsT _ 75 _) (by intro u hu; simp at hu; rcases hu with rfl | rfl | rfl | rfl | rfl <;> rfl) (by omega) hBv ?_
            intro vv' w11 hown11 hg11 hv11
            obtain ⟨hbut11, heb11, hrow11, ⟨gv, vc', rfl, hcv⟩, hmid12⟩ := HPU.out _ _ hown11 hg11 hv11
            have HS11 : Hid (EB w11 p9 k5 t5 (.slice no5 nn5 nc5) (.slice ao6 an6 ac6)) := hrow11
            have HR11 := Lib.hid hrow11
            have HMID3 := Lib.hid hmid12
            clear hown11 hg11 hv11 hmid12 heb11 hbut11 hrow11
            refine hK.out _ _ HS11.out (fun hHeld => ?_)
            clear hK K
            try simp only [List.getElem_toArray, List.getElem_cons_succ, List.getElem_cons_zero, Act.put, List.setIfInBounds_toArray, List.set_cons_zero, List.set_cons_succ]
            refine wpAnyH_take (i := 9) (v := Value.slice (some ⟨gv, 0, none⟩) (vals.length + 1) vc') rfl (by kernel_rfl) (by kernel_rfl) (by kernel_rfl) (fun _ _ _ h => h) (Or.inl ⟨rfl, fun w' hw' => ?_⟩) hHeld ?_
            · go_simp
            simp only [List.getElem_toArray, List.getElem_cons_succ, List.getElem_cons_zero, Act.put, List.setIfInBounds_toArray, List.set_cons_zero, List.set_cons_succ]
            refine wpAnyH_done (by kernel_rfl) ?_ _
            refine NoPanic.normal ?_
            clear hHeld
            have zv : (#[.int .i64 5, .string pnm, .slice none 0 0, .slice none 0 0] : Array Value).all (·.oneCell') = true := by simp [Value.oneCell']
            go_upto_region 11 with (refine wpList_store_row rfl 28 _ _ rfl p9 #[.int .i64 5, .string pnm, .slice none 0 0, .slice none 0 0] rfl rfl 28 _ HR11.out info28 rfl zv ?_)
            try simp only [Act.put]
            generalize w11.setRow p9 #[.int .i64 5, .string pnm, .slice none 0 0, .slice none 0 0] = w12 at HMID3 ⊢
            have HMID := HMID3
            clear HMID3 hcv HM9 HS9 HS7 HS11 HPU HOV HR11 HXD HS0 HNX HTB HTR
            obtain ⟨xs, hx8, hB8, c3, hc9⟩ := HMID.out.app hgW2 hgeb hneg rfl
            have HX8 := Lib.hid hx8
            have HC9 := Lib.hid hc9
            have hr8 : w12.heap[p9]? = some (.cells #[.int .i64 5, .string pnm, .slice none 0 0, .slice none 0 0] 28 (0, 0)) := HMID.out.row
            obtain ⟨f0, f1, f2, f3⟩ := EB.cell _ _ _ _ _ _ (show EB w12 p9 _ _ _ _ from hr8)
            have c3' : w12.cell? ⟨ge, 3, none⟩ = some (.slice ao5 made.length ac5) := (EB.cell _ _ _ _ _ _ HMID.out.eb).2.2.2
            have hml2 : made.length + 1 ≤ 1000000000 := by omega
            clear hx8 hc9 hr8 HMID
            go_wp2_with (at_builtin; refine wpList_app rfl (Operand.tmp 56) (Operand.tmp 58) rfl W2.heap.size (.slice ao5 made.length ac5) made.length xs rfl HX8.out w12.heap.size 1 rfl #[.int .i64 5, .string pnm, .slice none 0 0, .slice none 0 0].toList rfl (row_cellsT _ 28 _) (by intro u hu; simp at hu; rcases hu with rfl | rfl | rfl | rfl <;> rfl) hml2 hB8 ?_; intro av' w9 hown9 hg9 hv9; obtain ⟨ao', ac', rfl⟩ := own_form hown9; obtain ⟨c9, f9, hrest9⟩ := HC9.out _ _ hown9 hg9 hv9; have HRE := Lib.hid hrest9; clear hrest9 hown9 hg9 hv9)
            go_roundw
            case rel =>
              obtain ⟨h1, h2, h3, h4, h5, h6⟩ := HRE.out
              exact HREL.out _ _ _ _ HSN2.out h1 h2 h3 h4 h5 h6
            case measure => simp [intOf]; omega
          · have hsn := HSN.out a[j]
            rw [← take_snoc_et a j hlt, ← HMM.out, ← HMD.out, ← HVL.out, ← HX5.out, ← HM5.out, hs2, hb] at hsn
            have HSN2 : Hid (Et.nrms k t n 0 (a.take (j + 1)) = (m5, made ++ [x5], vals)) := hsn
            clear hsn HSN hb hs2
            obtain ⟨xs, hx8, hB8, c3, hc9⟩ := HMID.out.app hgW2 hgeb hneg rfl
            have HX8 := Lib.hid hx8
            have HC9 := Lib.hid hc9
            have hr8 : u8.heap[p9]? = some (.cells #[.int .i64 k5, .string t5, .slice no5 nn5 nc5, .slice ao6 an6 ac6] 28 (0, 0)) := HMID.out.row
            obtain ⟨f0, f1, f2, f3⟩ := EB.cell _ _ _ _ _ _ (show EB u8 p9 _ _ _ _ from hr8)
            have c3' : u8.cell? ⟨ge, 3, none⟩ = some (.slice ao5 made.length ac5) := (EB.cell _ _ _ _ _ _ HMID.out.eb).2.2.2
            have hml2 : made.length + 1 ≤ 1000000000 := by omega
            clear hx8 hc9 hr8 HMID
            go_wp2_with (at_builtin; refine wpList_app rfl (Operand.tmp 56) (Operand.tmp 58) rfl W2.heap.size (.slice ao5 made.length ac5) made.length xs rfl HX8.out u8.heap.size 1 rfl #[.int .i64 k5, .string t5, .slice no5 nn5 nc5, .slice ao6 an6 ac6].toList rfl (row_cellsT _ 28 _) (by intro u hu; simp at hu; rcases hu with rfl | rfl | rfl | rfl <;> rfl) hml2 hB8 ?_; intro av' w9 hown9 hg9 hv9; obtain ⟨ao', ac', rfl⟩ := own_form hown9; obtain ⟨c9, f9, hrest9⟩ := HC9.out _ _ hown9 hg9 hv9; have HRE := Lib.hid hrest9; clear hrest9 hown9 hg9 hv9)
            go_roundw
            case rel =>
              obtain ⟨h1, h2, h3, h4, h5, h6⟩ := HRE.out
              exact HREL.out _ _ _ _ HSN2.out h1 h2 h3 h4 h5 h6
            case measure => simp [intOf]; omega
        · have q2 : decide ((f : Int) ≤ (j : Int)) = false := decide_eq_false (by omega)
          have hs2 : slot k t (0 + (a.take j).length) = false := by rw [List.length_take, Nat.min_eq_left hj, Nat.zero_add, HSJ.out]; exact decide_eq_false hfj
          have hsn := HSN.out a[j]
          rw [← take_snoc_et a j hlt, ← HMM.out, ← HMD.out, ← HVL.out, ← HX5.out, ← HM5.out, hs2] at hsn
          have HSN2 : Hid (Et.nrms k t n 0 (a.take (j + 1)) = (m5, made ++ [x5], vals)) := hsn
          clear hsn HSN HNL hs2 HR8
          obtain ⟨xs, hx8, hB8, c3, hc9⟩ := HMID.out.app hgW2 hgeb hneg rfl
          have HX8 := Lib.hid hx8
          have HC9 := Lib.hid hc9
          have hr8 : w8.heap[p9]? = some (.cells #[.int .i64 k5, .string t5, .slice no5 nn5 nc5, .slice ao6 an6 ac6] 28 (0, 0)) := HMID.out.row
          obtain ⟨f0, f1, f2, f3⟩ := EB.cell _ _ _ _ _ _ (show EB w8 p9 _ _ _ _ from hr8)
          have c3' : w8.cell? ⟨ge, 3, none⟩ = some (.slice ao5 made.length ac5) := (EB.cell _ _ _ _ _ _ HMID.out.eb).2.2.2
          have hml2 : made.length + 1 ≤ 1000000000 := by omega
          clear hx8 hc9 hr8 HMID
          go_wp2_with (at_builtin; refine wpList_app rfl (Operand.tmp 56) (Operand.tmp 58) rfl W2.heap.size (.slice ao5 made.length ac5) made.length xs rfl HX8.out w8.heap.size 1 rfl #[.int .i64 k5, .string t5, .slice no5 nn5 nc5, .slice ao6 an6 ac6].toList rfl (row_cellsT _ 28 _) (by intro u hu; simp at hu; rcases hu with rfl | rfl | rfl | rfl <;> rfl) hml2 hB8 ?_; intro av' w9 hown9 hg9 hv9; obtain ⟨ao', ac', rfl⟩ := own_form hown9; obtain ⟨c9, f9, hrest9⟩ := HC9.out _ _ hown9 hg9 hv9; have HRE := Lib.hid hrest9; clear hrest9 hown9 hg9 hv9)
          go_roundw
          case rel =>
            obtain ⟨h1, h2, h3, h4, h5, h6⟩ := HRE.out
            exact HREL.out _ _ _ _ HSN2.out h1 h2 h3 h4 h5 h6
          case measure => simp [intOf]; omega
      · have q1 : decide ((j : Int) < (a.length : Int)) = false := decide_eq_false (by omega)
        obtain rfl : j = a.length := by omega
        have hta : a.take a.length = a := List.take_length
        have hmd := HMD.out
        have hvl := HVL.out
        have hmm := HMM.out
        rw [hta] at hmd hvl hmm
        have hnt : NAt (fun x => W1.heap.size ≤ x) wr (.slice no' ns.length nc') ns := by
          have h1 := (HXN.out.at).bound
          refine NAt.mono (NAt.keeps (S := fun x => (W1.heap.size ≤ x ∧ (Value.slice no' ns.length nc').ownBlock = some x) ∧ x < W2.heap.size) h1 (fun x c T fz hx hxx _ => ⟨fz, ?_⟩)) (fun x hx => hx.1.1)
          rw [HBT.out.block x hx.2 (by have := hx.1.1; omega) (HAP.out x hx.1.2)]; exact hxx
        have hat : Et.At (fun x => W1.heap.size ≤ x) wr (.mk k t ns made) #[.int .i64 k, .string t, (.slice no' ns.length nc'), .slice ao5 made.length ac5] := by
          rw [EAt_mk]
          exact ⟨_, _, rfl, hnt, HOW.out.at.mono (fun x hx => by have : W2.heap.size ≤ x := hx; omega)⟩
        have hvt : VAt (fun x => W1.heap.size ≤ x) wr (.slice vo vals.length vc) vals := by
          rcases HVA.out.at with h | ⟨g1, o1, cap, arr, fz, h1, h2, h3, h4⟩
          · exact .inl h
          · exact .inr ⟨g1, o1, cap, arr, fz, h1, h2, h3, fun i hi => by
              obtain ⟨cs, c1, c2, c3, c4⟩ := h4 i hi
              exact ⟨cs, c1, c2, c3, Et.At.mono (fun x hx => by have : W2.heap.size ≤ x := hx; omega) _ _ c4⟩⟩
        have HW := Lib.hid (lets_any (.mk k t ns made) vals _ _ _ wr hat hvt hLv)
        have hgr7 : wr.heap[gr]? = some (.cells Z4 28 (0, 0)) := by rw [HB1r.out.block gr hgr1 (by omega)]; exact HZ.out
        have HGR7 := Lib.hid hgr7
        have hlets : (Et.mk k t ns a).nrm n = (m, lets vals (.mk k t ns made)) := by rw [HEQ.out, ← hmd, ← hvl, ← hmm]
        have HLT := Lib.hid hlets
        clear hta hmd hvl hmm hnt hat hvt hgr7 hlets HMD HVL HMM
        go_wp2_with (refine wpList_load_row rfl 28 _ rfl ge rfl 28 #[.int .i64 k, .string t, (.slice no' ns.length nc'), .slice ao5 made.length ac5] (0, 0) _ HEB.out Tryd.underlying28 rfl info28 ?_)
        refine HW.out.mono ?_
        rintro r w5 ⟨cs5, rfl, hat5, hb5⟩
        obtain ⟨k5, t5, no5, nn5, nc5, ao6, an6, ac6, rfl⟩ := EAt_sl hat5
        have HZ5 : Hid (w5.heap[gr]? = some (.cells Z4 28 (0, 0))) := row_below hb5 HGR7.out
        have z5 : (#[.int .i64 k5, .string t5, .slice no5 nn5 nc5, .slice ao6 an6 ac6] : Array Value).all (·.oneCell') = true := by simp [Value.oneCell']
        have HFIN : Hid (RetNrm (.mk k t ns a) n g w (.returned (.agg #[.int .i64 k5, .string t5, .slice no5 nn5 nc5, .slice ao6 an6 ac6])) (w5.setRow gr #[.int .i64 k5, .string t5, .slice no5 nn5 nc5, .slice ao6 an6 ac6])) := by
          refine nt_end HB1.out HXB.out HBT.out hgrw hgr1 hge8 hgw ?_ ?_ hb5
          · rw [HLT.out]; exact HNK.out
          · rw [HLT.out]; exact hat5
        clear hat5 hb5 HW
        go_wp2_with (refine wpList_store_row rfl 28 _ _ rfl gr #[.int .i64 k5, .string t5, .slice no5 nn5 nc5, .slice ao6 an6 ac6] rfl rfl 28 Z4 HZ5.out info28 rfl z5 ?_)
        refine bodyPost_ret (results_cell_row rfl _ _ gr 28 #[.int .i64 k5, .string t5, .slice no5 nn5 nc5, .slice ao6 an6 ac6] (0, 0) _ rfl (setRow_heap w5 _ _ _ 28 _ HZ5.out) Tryd.underlying28 rfl info28) rfl ?_
        exact HFIN.out
end Go.Proofs.YtmcgocbkjdacaaaDoor
