/- short, pick. -/
import Derived.Test.YtkekekdkfjjifaaZK
namespace Go.Proofs.Ytkekekdkfjjifaa
open Go Go.RowKit
set_option linter.unusedVariables false
set_option linter.unusedSimpArgs false
def pickO (os : List Ob) (d : Nat) (a : Int) : Int :=
  if (hdo os (shortO os d ((ptrsOf os a).headD 0))).t = 2 then
    shortO os d ((ptrsOf os (shortO os d ((ptrsOf os a).headD 0))).getD ((numsOf os a).headD 0).toNat 0)
  else a
theorem shortO_pick (os : List Ob) (d : Nat) (a : Int) : shortO os (d + 1) a = if (hdo os (endO os a)).t = 6 then pickO os d (endO os a) else endO os a := rfl
def ShC (c b : Nat) (G : Option Nat) (os : List Ob) (m eb pb d : Nat) : Prop := ∀ (w : World) (C : Nat → Nat) (pk : List (Option Nat)) (a : Int), Memo w C c b G os m eb pb pk → Vd os a →
  Calls Try.prog 66 #[.pointer (some ⟨c, 0, none⟩), .int .i64 a, .int .i64 (d : Nat)] w (RetM (shortO os d a) C c b G os m eb pb pk w)
def PkC (c b : Nat) (G : Option Nat) (os : List Ob) (m eb pb d : Nat) : Prop := ∀ (w : World) (C : Nat → Nat) (pk : List (Option Nat)) (a : Int), Memo w C c b G os m eb pb pk → Vd os a → (hdo os a).t = 6 →
  Calls Try.prog 76 #[.pointer (some ⟨c, 0, none⟩), .int .i64 a, .int .i64 (d : Nat)] w (RetM (pickO os d a) C c b G os m eb pb pk w)
theorem PRw.cell? {w : World} {g : Nat} {l : List (Option Nat)} (h : PRw w g l) {j : Nat} {x : Option Nat} (hj : l[j]? = some x) : w.cell? ⟨g, j, none⟩ = some (pval x) := by
  obtain ⟨h1, h2⟩ := List.getElem?_eq_some_iff.1 hj
  rw [h.cell j h1, h2]
theorem PRw.frz {w : World} {g : Nat} {l : List (Option Nat)} (h : PRw w g l) (j : Nat) : w.frozen? ⟨g, j, none⟩ = false := frozen_of_row w g j _ 22 h
theorem Memo.end {w : World} {C : Nat → Nat} {c b : Nat} {G : Option Nat} {os : List Ob} {m eb pb : Nat} {pk : List (Option Nat)} (h : Memo w C c b G os m eb pb pk) (a : Int) (ha : Vd os a) :
    Calls Try.prog 75 #[.pointer (some ⟨c, 0, none⟩), .int .i64 a] w (RetEnd (endO os a) C c b G os m eb pb pk w) := by
  obtain ⟨h1, es, e1, e2, e3⟩ := h
  exact end_o h1 e1 e2 e3 a ha
set_option maxHeartbeats 16000000 in
set_option maxRecDepth 100000 in
theorem pick_of {c b : Nat} {G : Option Nat} {os : List Ob} {m eb pb d : Nat} (ih : ShC c b G os m eb pb d) : PkC c b G os m eb pb d := by
  intro w C pk a h ha h6
  have IH := Lib.hid ih
  have HM := Lib.hid h
  have hm : total os ≤ 1000000 := by have := h.1.hp.2.2.2.2; have := h.1.hp.2.2.2.1; omega
  have HOK := Lib.hid h.1.hp.2.1
  have HCL := Lib.hid h.1.hp.2.2.1
  obtain ⟨qa, hqa⟩ := ha
  have h6' := h6
  rw [hdo_tag hqa] at h6'
  obtain ⟨p, ep, hp, en⟩ := sel_ptr HCL.out HOK.out hqa h6'
  have hpa := ob_pos hqa
  obtain ⟨kn, hkn, hk2⟩ : ∃ kn : Nat, numsOf os a = [(kn : Int)] ∧ kn < 2 := by
    rcases en with e | e
    · exact ⟨0, e, by omega⟩
    · exact ⟨1, e, by omega⟩
  have hpv : pickO os d a = if (hdo os (shortO os d p)).t = 2 then shortO os d ((ptrsOf os (shortO os d p)).getD kn 0) else a := by
    unfold pickO; rw [ep, hkn]; simp
  rw [hpv]
  obtain ⟨r, hr⟩ : ∃ r, r = if (hdo os (shortO os d p)).t = 2 then shortO os d ((ptrsOf os (shortO os d p)).getD kn 0) else a := ⟨_, rfl⟩
  rw [← hr]
  have hx := shortO_valid HCL.out HOK.out d hp
  have hxp := vd_lt hx
  have F23 := Lib.hid (fun (W : World) (C9 : Nat → Nat) (pk9 : List (Option Nat)) (hM : Memo W C9 c b G os m eb pb pk9) => ptrs_o hM.1.hp a (by omega) (by omega))
  rw [ep] at F23
  have F24 := Lib.hid (fun (W : World) (C9 : Nat → Nat) (pk9 : List (Option Nat)) (hM : Memo W C9 c b G os m eb pb pk9) => nums_o hM.1.hp a (by omega) (by omega))
  rw [hkn] at F24
  have HP := Lib.hid hp
  have HXV := Lib.hid hx
  obtain ⟨x, hxe⟩ : ∃ x, x = shortO os d p := ⟨_, rfl⟩
  rw [← hxe] at HXV hxp hr
  have HRE := Lib.hid hr
  have HXE := Lib.hid hxe
  have F22 := Lib.hid (fun (W : World) (C9 : Nat → Nat) (pk9 : List (Option Nat)) (hM : Memo W C9 c b G os m eb pb pk9) => tagm_any hM.1.hp x (by omega) (by omega))
  have F23x := Lib.hid (fun (W : World) (C9 : Nat → Nat) (pk9 : List (Option Nat)) (hM : Memo W C9 c b G os m eb pb pk9) => ptrs_o hM.1.hp x (by omega) (by omega))
  have c0 := h.1.k0
  clear h hqa h6 h6' ep hp en hkn hpv hx hxe ih qa hr
  go_enter Try.func76, Try.ntmps76
  go_wp2_with fail
  refine (F23.out w C pk HM.out).mono ?_
  rintro e w1 hr1
  obtain ⟨po, pc, rfl, hown1, hb1⟩ := hr1.form
  obtain ⟨g1, cg1, e1, -, -, -, hgc1⟩ := own_at hown1 (Nat.lt_of_lt_of_eq Nat.zero_lt_one rfl)
  have c10 := hgc1 0 (Nat.lt_of_lt_of_eq Nat.zero_lt_one rfl)
  simp only [List.getElem_cons_zero] at c10
  injection e1 with e1 _ _
  subst e1
  have HM1 := Lib.hid (HM.out.below hb1)
  have HS1 : Hid (Mst C pk w C pk w1) := (Mst.refl C pk w).below hb1
  clear hr1 hown1 hgc1 hb1 F23 c0 HM
  go_wp2_with fail
  refine (IH.out w1 C pk p HM1.out HP.out).mono ?_
  rintro e w2 ⟨rfl, C2, pk2, hm2, hs2⟩
  rw [← HXE.out]
  have HM2 := Lib.hid hm2
  have HS2 := Lib.hid (HS1.out.trans hs2)
  have c0 := hm2.1.k0
  clear hm2 hs2 HM1 HS1 c10
  go_wp2_with fail
  refine (F22.out w2 C2 pk2 HM2.out).mono ?_
  rintro e w3 ⟨rfl, hb3⟩
  have HM3 := Lib.hid (HM2.out.below hb3)
  have HS3 := Lib.hid (HS2.out.below hb3)
  have c0' := HM3.out.1.k0
  clear HM2 HS2 hb3 c0 F22
  by_cases ht : (hdo os x).t = 2
  · have qt : (((hdo os x).t : Int) != 2) = false := by rw [ht]; rfl
    obtain ⟨qx, hqx⟩ := HXV.out
    obtain ⟨p0, p1, ep, hp0, hp1⟩ := con_ptr HCL.out HOK.out hqx (by rw [← hdo_tag hqx]; exact ht)
    have hr := HRE.out
    rw [if_pos ht, ep] at hr
    rw [ep] at F23x
    obtain ⟨y, hy, hyv⟩ : ∃ y, ([p0, p1] : List Int)[kn]? = some y ∧ Vd os y := by
      rcases (show kn = 0 ∨ kn = 1 by omega) with rfl | rfl
      · exact ⟨p0, rfl, hp0⟩
      · exact ⟨p1, rfl, hp1⟩
    rw [List.getD_eq_getElem?_getD, hy, Option.getD_some] at hr
    subst hr
    clear HRE
    have HY := Lib.hid hy
    have HYV := Lib.hid hyv
    have hk2' : (kn : Int) < 2 := by omega
    clear hqx ep hp0 hp1 ht hy hyv
    go_wp2_with fail
    have hX := Lib.hid (HM3.out.below (Below.refl w3.heap.size w3).drew)
    have hSX := Lib.hid (HS3.out.below (Below.refl w3.heap.size w3).drew)
    clear HM3 HS3 c0'
    refine wp_region_noPanic ?_
    refine wp_region_held_drew (S := fun W => W.cell? ⟨c, 0, none⟩ = some (.pointer (some ⟨b, 0, none⟩))) (by kernel_rfl) (hX.out.1.k0) (fun hHeld => ?_)
    generalize w3.drew = X at hX hSX hHeld ⊢
    refine wpAnyH_take (i := 0) (v := ?v0) rfl (by kernel_rfl) (by kernel_rfl) (by kernel_rfl) (fun _ _ _ h => h) (Or.inl ⟨rfl, fun w' hw' => ?h0⟩) hHeld ?r0
    case h0 =>
      (go_simp; try omega)
      try with_reducible rfl
    simp only [List.getElem_toArray, List.getElem_cons_succ, List.getElem_cons_zero, Act.put, List.setIfInBounds_toArray, List.set_cons_zero, List.set_cons_succ]
    refine wpAnyH_take (i := 1) (v := ?v1) rfl (by kernel_rfl) (by kernel_rfl) (by kernel_rfl) (fun _ _ _ h => h) (Or.inl ⟨rfl, fun w' hw' => ?h1⟩) hHeld ?r1
    case h1 =>
      (go_simp; try omega)
      try with_reducible rfl
    simp only [List.getElem_toArray, List.getElem_cons_succ, List.getElem_cons_zero, Act.put, List.setIfInBounds_toArray, List.set_cons_zero, List.set_cons_succ]
    refine wpAnyH_take (i := 2) (v := ?v2) rfl (by kernel_rfl) (by kernel_rfl) (by kernel_rfl) (fun _ _ _ h => h) (Or.inl ⟨rfl, fun w' hw' => ?h2⟩) hHeld ?r2
    case h2 =>
      (go_simp; try omega)
      try with_reducible rfl
    simp only [List.getElem_toArray, List.getElem_cons_succ, List.getElem_cons_zero, Act.put, List.setIfInBounds_toArray, List.set_cons_zero, List.set_cons_succ]
    refine wpAnyH_take (i := 3) (v := ?v3) rfl (by kernel_rfl) (by kernel_rfl) (by kernel_rfl) (fun _ _ _ h => h) (Or.inl ⟨rfl, fun w' hw' => ?h3⟩) hHeld ?r3
    case h3 =>
      (go_simp; try omega)
      try with_reducible rfl
    simp only [List.getElem_toArray, List.getElem_cons_succ, List.getElem_cons_zero, Act.put, List.setIfInBounds_toArray, List.set_cons_zero, List.set_cons_succ]
    refine wpAnyH_take (i := 4) (v := ?v4) rfl (by kernel_rfl) (by kernel_rfl) (by kernel_rfl) (fun _ _ _ h => h) (Or.inl ⟨rfl, fun w' hw' => ?h4⟩) hHeld ?r4
    case h4 =>
      (obtain HL := hw'; go_simp)
      try with_reducible rfl
    simp only [List.getElem_toArray, List.getElem_cons_succ, List.getElem_cons_zero, Act.put, List.setIfInBounds_toArray, List.set_cons_zero, List.set_cons_succ]
    refine wpAnyH_take (i := 5) (v := ?v5) rfl (by kernel_rfl) (by kernel_rfl) (by kernel_rfl) (fun _ _ _ h => h) (Or.inl ⟨rfl, fun w' hw' => ?h5⟩) hHeld ?r5
    case h5 =>
      (go_simp; try omega)
      try with_reducible rfl
    simp only [List.getElem_toArray, List.getElem_cons_succ, List.getElem_cons_zero, Act.put, List.setIfInBounds_toArray, List.set_cons_zero, List.set_cons_succ]
    refine wpAnyH_take (i := 7) (v := ?v6) rfl (by kernel_rfl) (by kernel_rfl) (by kernel_rfl) (fun _ _ _ h => h) (Or.inl ⟨rfl, fun w' hw' => ?h6⟩) hHeld ?r6
    case h6 =>
      (go_simp; try omega)
      try with_reducible rfl
    simp only [List.getElem_toArray, List.getElem_cons_succ, List.getElem_cons_zero, Act.put, List.setIfInBounds_toArray, List.set_cons_zero, List.set_cons_succ]
    refine wpAnyH_take (i := 8) (v := ?v7) rfl (by kernel_rfl) (by kernel_rfl) (by kernel_rfl) (fun _ _ _ h => h) (Or.inl ⟨rfl, fun w' hw' => ?h7⟩) hHeld ?r7
    case h7 =>
      (go_simp; try omega)
      try with_reducible rfl
    simp only [List.getElem_toArray, List.getElem_cons_succ, List.getElem_cons_zero, Act.put, List.setIfInBounds_toArray, List.set_cons_zero, List.set_cons_succ]
    refine wpAnyH_take (i := 9) (v := ?v8) rfl (by kernel_rfl) (by kernel_rfl) (by kernel_rfl) (fun _ _ _ h => h) (Or.inl ⟨rfl, fun w' hw' => ?h8⟩) hHeld ?r8
    case h8 =>
      (go_simp; try omega)
      try with_reducible rfl
    simp only [List.getElem_toArray, List.getElem_cons_succ, List.getElem_cons_zero, Act.put, List.setIfInBounds_toArray, List.set_cons_zero, List.set_cons_succ]
    refine wpAnyH_take (i := 10) (v := ?v9) rfl (by kernel_rfl) (by kernel_rfl) (by kernel_rfl) (fun _ _ _ h => h) (Or.inl ⟨rfl, fun w' hw' => ?h9⟩) hHeld ?r9
    case h9 =>
      (obtain HL := hw'; go_simp)
      try with_reducible rfl
    simp only [List.getElem_toArray, List.getElem_cons_succ, List.getElem_cons_zero, Act.put, List.setIfInBounds_toArray, List.set_cons_zero, List.set_cons_succ]
    refine wpAnyH_take (i := 11) (v := ?v10) rfl (by kernel_rfl) (by kernel_rfl) (by kernel_rfl) (fun _ _ _ h => h) (Or.inl ⟨rfl, fun w' hw' => ?h10⟩) hHeld ?r10
    case h10 =>
      (go_simp; try omega)
      try with_reducible rfl
    simp only [List.getElem_toArray, List.getElem_cons_succ, List.getElem_cons_zero, Act.put, List.setIfInBounds_toArray, List.set_cons_zero, List.set_cons_succ]
    refine wpAnyH_take (i := 17) (v := ?v11) rfl (by kernel_rfl) (by kernel_rfl) (by kernel_rfl) (fun _ _ _ h => h) (Or.inl ⟨rfl, fun w' hw' => ?h11⟩) hHeld ?r11
    case h11 =>
      (go_simp; try omega)
      try with_reducible rfl
    simp only [List.getElem_toArray, List.getElem_cons_succ, List.getElem_cons_zero, Act.put, List.setIfInBounds_toArray, List.set_cons_zero, List.set_cons_succ]
    refine wpAnyH_ready (rs := [6]) (by kernel_rfl) (by simp) ?_
    refine (AllReadyH.cons rfl (fun K hK => ?_) AllReadyH.nil)
    go_simp
    refine (F23x.out X C2 pk2 hX.out).mono ?_
    rintro e w4 hr4
    obtain ⟨po4, pc4, rfl, hown4, hb4⟩ := hr4.form
    obtain ⟨g4, cg4, e4, -, hg4, -, hgc4⟩ := own_at hown4 (Nat.lt_of_lt_of_eq Nat.zero_lt_two rfl)
    injection e4 with e4 _ _
    subst e4
    have HC4 : Hid (w4.cell? ⟨g4, kn, none⟩ = some (.int .i64 y)) := by
        obtain ⟨h1, h2⟩ := List.getElem?_eq_some_iff.1 HY.out
        have := hgc4 kn h1
        rw [h2] at this; exact this
    have HM4 := Lib.hid (hX.out.below hb4)
    have HS4 := Lib.hid (hSX.out.below hb4)
    clear hr4 hown4 hgc4 hb4 F23x hX hSX
    refine hK.out _ _ HM4.out.1.k0 (fun hHeld => ?_)
    clear hK K
    try simp only [List.getElem_toArray, List.getElem_cons_succ, List.getElem_cons_zero, Act.put, List.setIfInBounds_toArray, List.set_cons_zero, List.set_cons_succ]
    refine wpAnyH_ready (rs := [12]) (by kernel_rfl) (by simp) ?_
    refine (AllReadyH.cons rfl (fun K hK => ?_) AllReadyH.nil)
    go_simp
    refine (F24.out w4 C2 pk2 HM4.out).mono ?_
    rintro e w5 hr5
    obtain ⟨po5, pc5, rfl, hown5, hb5⟩ := hr5.form
    obtain ⟨g5, cg5, e5, -, hg5, -, hgc5⟩ := own_at hown5 (Nat.lt_of_lt_of_eq Nat.zero_lt_one rfl)
    injection e5 with e5 _ _
    subst e5
    have c5 := hgc5 0 (Nat.lt_of_lt_of_eq Nat.zero_lt_one rfl)
    simp only [List.getElem_cons_zero] at c5
    have c4 : w5.cell? ⟨g4, kn, none⟩ = some (.int .i64 y) := (hb5.cell (p := ⟨g4, kn, none⟩) hg4).trans HC4.out
    have HM5 := Lib.hid (HM4.out.below hb5)
    have HS5 := Lib.hid (HS4.out.below hb5)
    clear hr5 hown5 hgc5 hb5 F24 HM4 HS4 HC4
    refine hK.out _ _ HM5.out.1.k0 (fun hHeld => ?_)
    clear hK K
    try simp only [List.getElem_toArray, List.getElem_cons_succ, List.getElem_cons_zero, Act.put, List.setIfInBounds_toArray, List.set_cons_zero, List.set_cons_succ]
    refine wpAnyH_take (i := 13) (v := ?v12) rfl (by kernel_rfl) (by kernel_rfl) (by kernel_rfl) (fun _ _ _ h => h) (Or.inl ⟨rfl, fun w' hw' => ?h12⟩) hHeld ?r12
    case h12 =>
      (go_simp; try omega)
      try with_reducible rfl
    simp only [List.getElem_toArray, List.getElem_cons_succ, List.getElem_cons_zero, Act.put, List.setIfInBounds_toArray, List.set_cons_zero, List.set_cons_succ]
    refine wpAnyH_ready (rs := [14]) (by kernel_rfl) (by simp) ?_
    refine (AllReadyH.cons rfl (fun K hK => ?_) AllReadyH.nil)
    go_simp
    refine hK.out _ _ HM5.out.1.k0 (fun hHeld => ?_)
    clear hK K
    try simp only [List.getElem_toArray, List.getElem_cons_succ, List.getElem_cons_zero, Act.put, List.setIfInBounds_toArray, List.set_cons_zero, List.set_cons_succ]
    refine wpAnyH_take (i := 15) (v := Value.pointer (some ⟨g4, kn, none⟩)) rfl (by kernel_rfl) (by kernel_rfl) (by kernel_rfl) (fun _ _ _ h => h) (Or.inl ⟨rfl, fun w' hw' => ?_⟩) hHeld ?_
    · (go_simp; try omega)
    simp only [List.getElem_toArray, List.getElem_cons_succ, List.getElem_cons_zero, Act.put, List.setIfInBounds_toArray, List.set_cons_zero, List.set_cons_succ]
    refine wpAnyH_ready (rs := [16]) (by kernel_rfl) (by simp) ?_
    refine (AllReadyH.cons rfl (fun K hK => ?_) AllReadyH.nil)
    go_simp
    refine hK.out _ _ HM5.out.1.k0 (fun hHeld => ?_)
    clear hK K
    try simp only [List.getElem_toArray, List.getElem_cons_succ, List.getElem_cons_zero, Act.put, List.setIfInBounds_toArray, List.set_cons_zero, List.set_cons_succ]
    refine wpAnyH_ready (rs := [18]) (by kernel_rfl) (by simp) ?_
    refine (AllReadyH.cons rfl (fun K hK => ?_) AllReadyH.nil)
    go_simp
    refine (IH.out w5 C2 pk2 y HM5.out HYV.out).mono ?_
    rintro e w6 ⟨rfl, C6, pk6, hm6, hs6⟩
    have HM6 := Lib.hid hm6
    have HS6 := Lib.hid (HS5.out.trans hs6)
    clear hm6 hs6 c4 c5
    refine hK.out _ _ HM6.out.1.k0 (fun hHeld => ?_)
    clear hK K
    try simp only [List.getElem_toArray, List.getElem_cons_succ, List.getElem_cons_zero, Act.put, List.setIfInBounds_toArray, List.set_cons_zero, List.set_cons_succ]
    refine wpAnyH_take (i := 19) (v := ?v14) rfl (by kernel_rfl) (by kernel_rfl) (by kernel_rfl) (fun _ _ _ h => h) (Or.inl ⟨rfl, fun w' hw' => ?h14⟩) hHeld ?r14
    case h14 =>
      (go_simp; try omega)
      try with_reducible rfl
    simp only [List.getElem_toArray, List.getElem_cons_succ, List.getElem_cons_zero, Act.put, List.setIfInBounds_toArray, List.set_cons_zero, List.set_cons_succ]
    refine wpAnyH_done (by kernel_rfl) ?_ _
    refine NoPanic.normal ?_
    clear hHeld
    go_wp2_with fail
    go_ret
    exact ⟨rfl, C6, pk6, HM6.out, HS6.out⟩
  · have qt : (((hdo os x).t : Int) != 2) = true := by
      have : ¬ ((hdo os x).t : Int) = 2 := by omega
      simpa using this
    have hr := HRE.out
    rw [if_neg ht] at hr
    subst hr
    clear ht HRE
    go_wp2_with fail
    go_ret
    exact ⟨rfl, C2, pk2, HM3.out, HS3.out⟩
set_option maxHeartbeats 4000000 in
set_option maxRecDepth 100000 in
theorem short_zero (c b : Nat) (G : Option Nat) (os : List Ob) (m eb pb : Nat) : ShC c b G os m eb pb 0 := by
  intro w C pk a h ha
  have F := Lib.hid (h.end a ha)
  clear h
  go_enter Try.func66, Try.ntmps66
  go_wp2_with fail
  refine F.out.mono ?_
  rintro e w1 hr
  obtain ⟨rfl, hm1, hs1⟩ := hr.memo
  have HM1 := Lib.hid hm1
  have HS1 := Lib.hid hs1
  clear F hr hm1 hs1
  go_wp2_with fail
  go_ret
  exact ⟨rfl, C, pk, HM1.out, HS1.out⟩
end Go.Proofs.Ytkekekdkfjjifaa
