/- short, one deeper; short for all depths. -/
import Derived.Test.YtkekekdkfjjifaaK6
import Derived.Lib.LazyBuf
namespace Go.Proofs.Ytkekekdkfjjifaa
open Go Go.RowKit
set_option linter.unusedVariables false
set_option linter.unusedSimpArgs false
theorem IRw.self {w : World} {g : Nat} {l : List Int} (h : IRw w g l) {j : Nat} (hj : j < l.length) (x : Int) : (w.setCell ⟨g, j, none⟩ (.int .i64 x)).cell? ⟨g, j, none⟩ = some (.int .i64 x) :=
  (h.put j x).cell? (by rw [List.getElem?_set, if_pos rfl, if_pos hj])
set_option maxHeartbeats 16000000 in
set_option maxRecDepth 100000 in
theorem short_succ {c b : Nat} {G : Option Nat} {os : List Ob} {m eb pb d : Nat} (hd : d + 1 ≤ 20) (ih : PkC c b G os m eb pb d) : ShC c b G os m eb pb (d + 1) := by
  intro w C pk a h ha
  have FPK := Lib.hid ih
  have F := Lib.hid (h.end a ha)
  have hm : total os ≤ 1000000 := by have := h.1.hp.2.2.2.2; have := h.1.hp.2.2.2.1; omega
  have hv := endO_valid ha
  have hvp := vd_lt hv
  obtain ⟨r, hr⟩ : ∃ r, r = shortO os (d + 1) a := ⟨_, rfl⟩
  rw [← hr]
  have hr2 := hr
  rw [shortO_pick] at hr2
  have hidem := endO_idem ha
  obtain ⟨an, han⟩ : ∃ an : Nat, endO os a = an := ⟨(endO os a).toNat, by omega⟩
  have hsh : shortO os (d + 1) (an : Int) = r := by rw [← han, shortO_end ha, hr]
  rw [han] at hv hvp hr2 F
  have HRE := Lib.hid hr2
  have HSH := Lib.hid hsh
  have HV := Lib.hid hv
  obtain ⟨D, hD⟩ : ∃ D, D = d + 1 := ⟨_, rfl⟩
  have HD := Lib.hid hD
  rw [← hD] at hd ⊢
  rw [← hD] at HSH
  have hD1 : 1 ≤ D := by omega
  have q0 : ((D : Int) == 0) = false := by
    have : ¬ (D : Int) = 0 := by omega
    simpa using this
  have hDd : (D : Int) - 1 = (d : Int) := by omega
  obtain ⟨U, hU⟩ : ∃ U, U = total os := ⟨_, rfl⟩
  rw [← hU] at hm hvp
  have haU : an < U := by omega
  have HU := Lib.hid hU
  have F22 := Lib.hid (fun (W : World) (C9 : Nat → Nat) (pk9 : List (Option Nat)) (hM : Memo W C9 c b G os m eb pb pk9) => tagm_any hM.1.hp (an : Int) (by omega) (by omega))
  clear h ih ha hv hr hr2 hidem han hsh hD hU
  have qn0 : ∀ (W : World), (binOp .eql 22 (.slice none 0 0) (.slice none 0 0)).run Try.prog W = .ok (.bool true) W := fun W => Go.run_eql_slice_nil W 22 3 none 0 0 Try.underlying22
  have qn1 : ∀ (W : World) (q : Nat), (binOp .eql 22 (.slice (some ⟨q, 0, none⟩) 21 21) (.slice none 0 0)).run Try.prog W = .ok (.bool false) W := fun W q => Go.run_eql_slice_nil W 22 3 (some ⟨q, 0, none⟩) 21 21 Try.underlying22
  go_enter Try.func66, Try.ntmps66
  go_wp2_with fail
  refine F.out.mono ?_
  rintro e w1 hr
  obtain ⟨rfl, hm1, hs1⟩ := hr.memo
  have HM1 := Lib.hid hm1
  have HS1 := Lib.hid hs1
  have c0 := hm1.1.k0
  clear F hr hm1 hs1
  go_wp2_with fail
  refine (F22.out w1 C pk HM1.out).mono ?_
  rintro e w2 ⟨rfl, hb2⟩
  have HM2 := Lib.hid (HM1.out.below hb2)
  have HS2 := Lib.hid (HS1.out.below hb2)
  clear HM1 HS1 hb2 c0 F22
  by_cases ht : (hdo os an).t = 6
  · have qt : (((hdo os an).t : Int) != 6) = false := by rw [ht]; rfl
    have hr := HRE.out
    rw [if_pos ht] at hr
    have HRR := Lib.hid hr
    have HT := Lib.hid ht
    clear hr HRE ht
    have hpl : pk.length = U := by rw [HM2.out.1.len, HU.out]
    have c2 := HM2.out.1.k2
    rw [← HU.out] at c2
    obtain ⟨x, hx⟩ : ∃ x, pk[an]? = some x := ⟨_, List.getElem?_eq_getElem (by omega)⟩
    have cp := HM2.out.1.p.cell? hx
    have HX := Lib.hid hx
    clear hx hpl
    cases x with
    | none =>
      simp only [pval] at cp
      have fp := HM2.out.1.p.frz an
      go_wp2_with fail
      have hX := Lib.hid (HM2.out.below (Below.refl w2.heap.size w2).drew)
      have hSX := Lib.hid (HS2.out.below (Below.refl w2.heap.size w2).drew)
      have cX := hX.out.1.k2
      rw [← HU.out] at cX
      have FU := Lib.hid (fun W => unknowns_any 21 (by omega) W)
      clear HM2 HS2 c2 cp fp
      refine wp_region_noPanic ?_
      refine wp_region_held_drew (S := fun W => W.cell? ⟨c, 2, none⟩ = some (.slice (some ⟨pb, 0, none⟩) U U)) (by kernel_rfl) cX (fun hHeld => ?_)
      generalize w2.drew = X at hX hSX cX hHeld ⊢
      refine wpAnyH_take (i := 0) (v := ?v0) rfl (by kernel_rfl) (by kernel_rfl) (by kernel_rfl) (fun _ _ _ h => h) (Or.inl ⟨rfl, fun w' hw' => ?h0⟩) hHeld ?r0
      case h0 =>
        (go_simp; try omega)
        try with_reducible rfl
      simp only [List.getElem_toArray, List.getElem_cons_succ, List.getElem_cons_zero, Act.put, List.setIfInBounds_toArray, List.set_cons_zero, List.set_cons_succ]
      refine wpAnyH_take (i := 1) (v := ?v1) rfl (by kernel_rfl) (by kernel_rfl) (by kernel_rfl) (fun _ _ _ h => h) (Or.inl ⟨rfl, fun w' hw' => ?h1⟩) hHeld ?r1
      case h1 =>
        (go_simp; try omega)
        try with_reducible rfl
      simp only [List.getElem_toArray, List.getElem_cons_succ, List.getElem_cons_zero, Act.put, List.setIfInBounds_toArray, List.set_cons_zero, List.set_cons_succ]
      refine wpAnyH_take (i := 2) (v := ?v2) rfl (by kernel_rfl) (by kernel_rfl) (by kernel_rfl) (fun _ _ _ h => h) (Or.inl ⟨rfl, fun w' hw' => ?h2⟩) hHeld ?r2
      case h2 =>
        (go_simp; try omega)
        try with_reducible rfl
      simp only [List.getElem_toArray, List.getElem_cons_succ, List.getElem_cons_zero, Act.put, List.setIfInBounds_toArray, List.set_cons_zero, List.set_cons_succ]
      refine wpAnyH_take (i := 3) (v := ?v3) rfl (by kernel_rfl) (by kernel_rfl) (by kernel_rfl) (fun _ _ _ h => h) (Or.inl ⟨rfl, fun w' hw' => ?h3⟩) hHeld ?r3
      case h3 =>
        (obtain d0 := hw'; go_simp)
        try with_reducible rfl
      simp only [List.getElem_toArray, List.getElem_cons_succ, List.getElem_cons_zero, Act.put, List.setIfInBounds_toArray, List.set_cons_zero, List.set_cons_succ]
      refine wpAnyH_take (i := 4) (v := ?v4) rfl (by kernel_rfl) (by kernel_rfl) (by kernel_rfl) (fun _ _ _ h => h) (Or.inl ⟨rfl, fun w' hw' => ?h4⟩) hHeld ?r4
      case h4 =>
        (go_simp; try omega)
        try with_reducible rfl
      simp only [List.getElem_toArray, List.getElem_cons_succ, List.getElem_cons_zero, Act.put, List.setIfInBounds_toArray, List.set_cons_zero, List.set_cons_succ]
      refine wpAnyH_ready (rs := [5]) (by kernel_rfl) (by simp) ?_
      refine (AllReadyH.cons rfl (fun K hK => ?_) AllReadyH.nil)
      go_simp
      refine (FU.out X).mono ?_
      rintro e w3 ⟨q, hq, rfl, hqr, hb3⟩
      have HQ := Lib.hid hqr
      have HM3 := Lib.hid (hX.out.below hb3)
      have HS3 := Lib.hid (hSX.out.below hb3)
      have HC0 : Hid (C q = 0) := hX.out.1.fresh q hq
      have HSN := Lib.hid (hSX.out.trans (Mst.newpick HX.out hq))
      have HNS : Hid (Mst C pk w (fun k => if k = q then 4 else C k) (pk.set an (some q)) w3) := HSN.out.below hb3
      have c3 := HM3.out.1.k2
      rw [← HU.out] at c3
      have d3 := HM3.out.1.p.cell? HX.out
      simp only [pval] at d3
      have f3 := HM3.out.1.p.frz an
      clear hqr hb3 hX hSX cX FU HSN hq
      refine hK.out _ _ c3 (fun hHeld => ?_)
      clear hK K
      try simp only [List.getElem_toArray, List.getElem_cons_succ, List.getElem_cons_zero, Act.put, List.setIfInBounds_toArray, List.set_cons_zero, List.set_cons_succ]
      refine wpAnyH_take (i := 6) (v := Value.pointer (some ⟨pb, an, none⟩)) rfl (by kernel_rfl) (by kernel_rfl) (by kernel_rfl) (fun _ _ _ h => h) (Or.inl ⟨rfl, fun w' hw' => ?_⟩) hHeld ?_
      · (go_simp; try omega)
      simp only [List.getElem_toArray, List.getElem_cons_succ, List.getElem_cons_zero, Act.put, List.setIfInBounds_toArray, List.set_cons_zero, List.set_cons_succ]
      refine wpAnyH_ready (rs := [7]) (by kernel_rfl) (by simp) ?_
      refine (AllReadyH.cons rfl (fun K hK => ?_) AllReadyH.nil)
      go_simp
      have HM4 := Lib.hid (HM3.out.newpick HX.out HQ.out HC0.out)
      have HS4 : Hid (Mst C pk w (fun k => if k = q then 4 else C k) (pk.set an (some q)) (w3.setCell ⟨pb, an, none⟩ (.slice (some ⟨q, 0, none⟩) 21 21))) := HNS.out.put (by show (if pb = q then 4 else C pb) = 2 ∨ (if pb = q then 4 else C pb) = 3 ∨ (if pb = q then 4 else C pb) = 4; rw [HM3.out.1.cp]; split <;> omega) _
      have c2 := HM4.out.1.k2
      rw [← HU.out] at c2
      have HX9 : Hid ((pk.set an (some q))[an]? = some (some q)) := by show _ = _; rw [List.getElem?_set, if_pos rfl, if_pos (List.getElem?_eq_some_iff.1 HX.out).1]
      have cp := HM4.out.1.p.cell? HX9.out
      simp only [pval] at cp
      clear HM3 HS3 HQ HC0 HNS c3 d3 f3
      refine hK.out _ _ c2 (fun hHeld => ?_)
      generalize w3.setCell ⟨pb, an, none⟩ (.slice (some ⟨q, 0, none⟩) 21 21) = w2 at HM4 HS4 c2 cp ⊢
      clear HX
      have HX := HX9
      clear HX9
      generalize (fun k => if k = q then 4 else C k) = C1 at HM4 HS4
      generalize pk.set an (some q) = pk1 at HM4 HS4 HX
      have HM2 := HM4
      have HS2 := HS4
      clear HM4 HS4
      clear hK K
      try simp only [List.getElem_toArray, List.getElem_cons_succ, List.getElem_cons_zero, Act.put, List.setIfInBounds_toArray, List.set_cons_zero, List.set_cons_succ]
      refine wpAnyH_done (by kernel_rfl) ?_ _
      refine NoPanic.normal ?_
      clear hHeld
      obtain ⟨l, hl, hl21, hpi⟩ := HM2.out.1.q an q HX.out
      obtain ⟨v, hv⟩ : ∃ v, l[D]? = some v := ⟨_, List.getElem?_eq_getElem (by omega)⟩
      have cv := hl.cell? hv
      have HPI := Lib.hid (hpi D v hv)
      have hDi : (D : Int) < 21 := by omega
      clear hl hl21 hpi hv
      by_cases hv1 : v = -1
      · subst hv1
        have qv : ((-1 : Int) == -1) = true := rfl
        go_wp2_with fail
        have hX := Lib.hid (HM2.out.below (Below.refl w2.heap.size w2).drew)
        have hSX := Lib.hid (HS2.out.below (Below.refl w2.heap.size w2).drew)
        have cX := hX.out.1.k2
        rw [← HU.out] at cX
        have dX := hX.out.1.p.cell? HX.out
        simp only [pval] at dX
        clear HM2 HS2 c2 cp cv HPI
        refine wp_region_noPanic ?_
        refine wp_region_held_drew (S := fun W => W.cell? ⟨c, 2, none⟩ = some (.slice (some ⟨pb, 0, none⟩) U U) ∧ W.cell? ⟨pb, an, none⟩ = some (.slice (some ⟨q, 0, none⟩) 21 21)) (by kernel_rfl) ⟨cX, dX⟩ (fun hHeld => ?_)
        generalize w2.drew = X at hX hSX cX dX hHeld ⊢
        refine wpAnyH_take (i := 0) (v := ?v6) rfl (by kernel_rfl) (by kernel_rfl) (by kernel_rfl) (fun _ _ _ h => h) (Or.inl ⟨rfl, fun w' hw' => ?h6⟩) hHeld ?r6
        case h6 =>
          (go_simp; try (first | (rw [IntKind.wrap_i64]; omega) | omega))
          try with_reducible rfl
        simp only [List.getElem_toArray, List.getElem_cons_succ, List.getElem_cons_zero, Act.put, List.setIfInBounds_toArray, List.set_cons_zero, List.set_cons_succ]
        refine wpAnyH_take (i := 1) (v := ?v7) rfl (by kernel_rfl) (by kernel_rfl) (by kernel_rfl) (fun _ _ _ h => h) (Or.inl ⟨rfl, fun w' hw' => ?h7⟩) hHeld ?r7
        case h7 =>
          (go_simp; try (first | (rw [IntKind.wrap_i64]; omega) | omega))
          try with_reducible rfl
        simp only [List.getElem_toArray, List.getElem_cons_succ, List.getElem_cons_zero, Act.put, List.setIfInBounds_toArray, List.set_cons_zero, List.set_cons_succ]
        refine wpAnyH_take (i := 2) (v := ?v8) rfl (by kernel_rfl) (by kernel_rfl) (by kernel_rfl) (fun _ _ _ h => h) (Or.inl ⟨rfl, fun w' hw' => ?h8⟩) hHeld ?r8
        case h8 =>
          (go_simp; try (first | (rw [IntKind.wrap_i64]; omega) | omega))
          try with_reducible rfl
        simp only [List.getElem_toArray, List.getElem_cons_succ, List.getElem_cons_zero, Act.put, List.setIfInBounds_toArray, List.set_cons_zero, List.set_cons_succ]
        refine wpAnyH_take (i := 3) (v := ?v9) rfl (by kernel_rfl) (by kernel_rfl) (by kernel_rfl) (fun _ _ _ h => h) (Or.inl ⟨rfl, fun w' hw' => ?h9⟩) hHeld ?r9
        case h9 =>
          (obtain ⟨d0, _⟩ := hw'; go_simp)
          try with_reducible rfl
        simp only [List.getElem_toArray, List.getElem_cons_succ, List.getElem_cons_zero, Act.put, List.setIfInBounds_toArray, List.set_cons_zero, List.set_cons_succ]
        refine wpAnyH_take (i := 4) (v := ?v10) rfl (by kernel_rfl) (by kernel_rfl) (by kernel_rfl) (fun _ _ _ h => h) (Or.inl ⟨rfl, fun w' hw' => ?h10⟩) hHeld ?r10
        case h10 =>
          (go_simp; try (first | (rw [IntKind.wrap_i64]; omega) | omega))
          try with_reducible rfl
        simp only [List.getElem_toArray, List.getElem_cons_succ, List.getElem_cons_zero, Act.put, List.setIfInBounds_toArray, List.set_cons_zero, List.set_cons_succ]
        refine wpAnyH_take (i := 5) (v := ?v11) rfl (by kernel_rfl) (by kernel_rfl) (by kernel_rfl) (fun _ _ _ h => h) (Or.inl ⟨rfl, fun w' hw' => ?h11⟩) hHeld ?r11
        case h11 =>
          (go_simp; try (first | (rw [IntKind.wrap_i64]; omega) | omega))
          try with_reducible rfl
        simp only [List.getElem_toArray, List.getElem_cons_succ, List.getElem_cons_zero, Act.put, List.setIfInBounds_toArray, List.set_cons_zero, List.set_cons_succ]
        refine wpAnyH_take (i := 6) (v := ?v12) rfl (by kernel_rfl) (by kernel_rfl) (by kernel_rfl) (fun _ _ _ h => h) (Or.inl ⟨rfl, fun w' hw' => ?h12⟩) hHeld ?r12
        case h12 =>
          (obtain ⟨_, d0⟩ := hw'; go_simp)
          try with_reducible rfl
        simp only [List.getElem_toArray, List.getElem_cons_succ, List.getElem_cons_zero, Act.put, List.setIfInBounds_toArray, List.set_cons_zero, List.set_cons_succ]
        refine wpAnyH_take (i := 7) (v := ?v13) rfl (by kernel_rfl) (by kernel_rfl) (by kernel_rfl) (fun _ _ _ h => h) (Or.inl ⟨rfl, fun w' hw' => ?h13⟩) hHeld ?r13
        case h13 =>
          (go_simp; try (first | (rw [IntKind.wrap_i64]; omega) | omega))
          try with_reducible rfl
        simp only [List.getElem_toArray, List.getElem_cons_succ, List.getElem_cons_zero, Act.put, List.setIfInBounds_toArray, List.set_cons_zero, List.set_cons_succ]
        refine wpAnyH_take (i := 8) (v := ?v14) rfl (by kernel_rfl) (by kernel_rfl) (by kernel_rfl) (fun _ _ _ h => h) (Or.inl ⟨rfl, fun w' hw' => ?h14⟩) hHeld ?r14
        case h14 =>
          (go_simp; try (first | (rw [IntKind.wrap_i64]; omega) | omega))
          try with_reducible rfl
        simp only [List.getElem_toArray, List.getElem_cons_succ, List.getElem_cons_zero, Act.put, List.setIfInBounds_toArray, List.set_cons_zero, List.set_cons_succ]
        refine wpAnyH_take (i := 9) (v := ?v15) rfl (by kernel_rfl) (by kernel_rfl) (by kernel_rfl) (fun _ _ _ h => h) (Or.inl ⟨rfl, fun w' hw' => ?h15⟩) hHeld ?r15
        case h15 =>
          (go_simp; try (first | (rw [IntKind.wrap_i64]; omega) | omega))
          try with_reducible rfl
        simp only [List.getElem_toArray, List.getElem_cons_succ, List.getElem_cons_zero, Act.put, List.setIfInBounds_toArray, List.set_cons_zero, List.set_cons_succ]
        refine wpAnyH_take (i := 10) (v := ?v16) rfl (by kernel_rfl) (by kernel_rfl) (by kernel_rfl) (fun _ _ _ h => h) (Or.inl ⟨rfl, fun w' hw' => ?h16⟩) hHeld ?r16
        case h16 =>
          (go_simp; try (first | (rw [IntKind.wrap_i64]; omega) | omega))
          try with_reducible rfl
        simp only [List.getElem_toArray, List.getElem_cons_succ, List.getElem_cons_zero, Act.put, List.setIfInBounds_toArray, List.set_cons_zero, List.set_cons_succ]
        refine wpAnyH_take (i := 11) (v := Value.int .i64 (d : Int)) rfl (by kernel_rfl) (by kernel_rfl) (by kernel_rfl) (fun _ _ _ h => h) (Or.inl ⟨rfl, fun w' hw' => ?_⟩) hHeld ?_
        · (go_simp; try (first | (rw [IntKind.wrap_i64]; omega) | omega))
        simp only [List.getElem_toArray, List.getElem_cons_succ, List.getElem_cons_zero, Act.put, List.setIfInBounds_toArray, List.set_cons_zero, List.set_cons_succ]
        refine wpAnyH_ready (rs := [12]) (by kernel_rfl) (by simp) ?_
        refine (AllReadyH.cons rfl (fun K hK => ?_) AllReadyH.nil)
        go_simp
        refine (FPK.out X C1 pk1 an hX.out HV.out HT.out).mono ?_
        rintro e w3 ⟨rfl, C3, pk3, hm3, hs3⟩
        rw [← HRR.out]
        have HM3 := Lib.hid hm3
        have HS3 := Lib.hid (hSX.out.trans hs3)
        have HX3 := Lib.hid (hs3.ext an q HX.out)
        have c3 := hm3.1.k2
        rw [← HU.out] at c3
        have d3 := hm3.1.p.cell? HX3.out
        simp only [pval] at d3
        obtain ⟨l3, hl3, hl321, -⟩ := hm3.1.q an q HX3.out
        obtain ⟨v3, hv3⟩ : ∃ v3, l3[D]? = some v3 := ⟨_, List.getElem?_eq_getElem (by omega)⟩
        have e3 := hl3.cell? hv3
        have f3 := hl3.frz D
        have HSELF := Lib.hid (hl3.self (show D < l3.length by omega) r)
        clear hm3 hs3 hX hSX cX dX hl3 hl321 hv3
        refine hK.out _ _ ⟨c3, d3⟩ (fun hHeld => ?_)
        clear hK K
        try simp only [List.getElem_toArray, List.getElem_cons_succ, List.getElem_cons_zero, Act.put, List.setIfInBounds_toArray, List.set_cons_zero, List.set_cons_succ]
        refine wpAnyH_take (i := 13) (v := Value.pointer (some ⟨q, D, none⟩)) rfl (by kernel_rfl) (by kernel_rfl) (by kernel_rfl) (fun _ _ _ h => h) (Or.inl ⟨rfl, fun w' hw' => ?_⟩) hHeld ?_
        · (go_simp; try (first | (rw [IntKind.wrap_i64]; omega) | omega))
        simp only [List.getElem_toArray, List.getElem_cons_succ, List.getElem_cons_zero, Act.put, List.setIfInBounds_toArray, List.set_cons_zero, List.set_cons_succ]
        refine wpAnyH_ready (rs := [14]) (by kernel_rfl) (by simp) ?_
        refine (AllReadyH.cons rfl (fun K hK => ?_) AllReadyH.nil)
        go_simp
        have HM4 := Lib.hid (HM3.out.setpick HX3.out D (x := r) HSH.out.symm)
        have HS4 : Hid (Mst C pk w C3 pk3 (w3.setCell ⟨q, D, none⟩ (.int .i64 r))) := HS3.out.put (.inr (.inr (HM3.out.1.cq an q HX3.out))) _
        have c4 := HM4.out.1.k2
        rw [← HU.out] at c4
        have d4 := HM4.out.1.p.cell? HX3.out
        simp only [pval] at d4
        have e4 : (w3.setCell ⟨q, D, none⟩ (.int .i64 r)).cell? ⟨q, D, none⟩ = some (.int .i64 r) := HSELF.out
        clear HM3 HS3 c3 d3 e3 f3 HSELF
        refine hK.out _ _ ⟨c4, d4⟩ (fun hHeld => ?_)
        generalize w3.setCell ⟨q, D, none⟩ (.int .i64 r) = w4 at HM4 HS4 c4 d4 e4 ⊢
        clear hK K
        try simp only [List.getElem_toArray, List.getElem_cons_succ, List.getElem_cons_zero, Act.put, List.setIfInBounds_toArray, List.set_cons_zero, List.set_cons_succ]
        refine wpAnyH_done (by kernel_rfl) ?_ _
        refine NoPanic.normal ?_
        clear hHeld
        go_wp2_with fail
        go_ret
        exact ⟨rfl, C3, pk3, HM4.out, HS4.out⟩
      · have qv : (v == -1) = false := by simpa using hv1
        have hve : v = r := by
          rcases HPI.out with h | h
          · exact absurd h hv1
          · rw [h, HSH.out]
        subst hve
        clear HPI hv1
        go_wp2_with fail
        go_ret
        exact ⟨rfl, C1, pk1, HM2.out, HS2.out⟩
    | some q =>
      simp only [pval] at cp
      obtain ⟨l, hl, hl21, hpi⟩ := HM2.out.1.q an q HX.out
      obtain ⟨v, hv⟩ : ∃ v, l[D]? = some v := ⟨_, List.getElem?_eq_getElem (by omega)⟩
      have cv := hl.cell? hv
      have HPI := Lib.hid (hpi D v hv)
      have hDi : (D : Int) < 21 := by omega
      clear hl hl21 hpi hv
      by_cases hv1 : v = -1
      · subst hv1
        have qv : ((-1 : Int) == -1) = true := rfl
        go_wp2_with fail
        have hX := Lib.hid (HM2.out.below (Below.refl w2.heap.size w2).drew)
        have hSX := Lib.hid (HS2.out.below (Below.refl w2.heap.size w2).drew)
        have cX := hX.out.1.k2
        rw [← HU.out] at cX
        have dX := hX.out.1.p.cell? HX.out
        simp only [pval] at dX
        clear HM2 HS2 c2 cp cv HPI
        refine wp_region_noPanic ?_
        refine wp_region_held_drew (S := fun W => W.cell? ⟨c, 2, none⟩ = some (.slice (some ⟨pb, 0, none⟩) U U) ∧ W.cell? ⟨pb, an, none⟩ = some (.slice (some ⟨q, 0, none⟩) 21 21)) (by kernel_rfl) ⟨cX, dX⟩ (fun hHeld => ?_)
        generalize w2.drew = X at hX hSX cX dX hHeld ⊢
        refine wpAnyH_take (i := 0) (v := ?v19) rfl (by kernel_rfl) (by kernel_rfl) (by kernel_rfl) (fun _ _ _ h => h) (Or.inl ⟨rfl, fun w' hw' => ?h19⟩) hHeld ?r19
        case h19 =>
          (go_simp; try (first | (rw [IntKind.wrap_i64]; omega) | omega))
          try with_reducible rfl
        simp only [List.getElem_toArray, List.getElem_cons_succ, List.getElem_cons_zero, Act.put, List.setIfInBounds_toArray, List.set_cons_zero, List.set_cons_succ]
        refine wpAnyH_take (i := 1) (v := ?v20) rfl (by kernel_rfl) (by kernel_rfl) (by kernel_rfl) (fun _ _ _ h => h) (Or.inl ⟨rfl, fun w' hw' => ?h20⟩) hHeld ?r20
        case h20 =>
          (go_simp; try (first | (rw [IntKind.wrap_i64]; omega) | omega))
          try with_reducible rfl
        simp only [List.getElem_toArray, List.getElem_cons_succ, List.getElem_cons_zero, Act.put, List.setIfInBounds_toArray, List.set_cons_zero, List.set_cons_succ]
        refine wpAnyH_take (i := 2) (v := ?v21) rfl (by kernel_rfl) (by kernel_rfl) (by kernel_rfl) (fun _ _ _ h => h) (Or.inl ⟨rfl, fun w' hw' => ?h21⟩) hHeld ?r21
        case h21 =>
          (go_simp; try (first | (rw [IntKind.wrap_i64]; omega) | omega))
          try with_reducible rfl
        simp only [List.getElem_toArray, List.getElem_cons_succ, List.getElem_cons_zero, Act.put, List.setIfInBounds_toArray, List.set_cons_zero, List.set_cons_succ]
        refine wpAnyH_take (i := 3) (v := ?v22) rfl (by kernel_rfl) (by kernel_rfl) (by kernel_rfl) (fun _ _ _ h => h) (Or.inl ⟨rfl, fun w' hw' => ?h22⟩) hHeld ?r22
        case h22 =>
          (obtain ⟨d0, _⟩ := hw'; go_simp)
          try with_reducible rfl
        simp only [List.getElem_toArray, List.getElem_cons_succ, List.getElem_cons_zero, Act.put, List.setIfInBounds_toArray, List.set_cons_zero, List.set_cons_succ]
        refine wpAnyH_take (i := 4) (v := ?v23) rfl (by kernel_rfl) (by kernel_rfl) (by kernel_rfl) (fun _ _ _ h => h) (Or.inl ⟨rfl, fun w' hw' => ?h23⟩) hHeld ?r23
        case h23 =>
          (go_simp; try (first | (rw [IntKind.wrap_i64]; omega) | omega))
          try with_reducible rfl
        simp only [List.getElem_toArray, List.getElem_cons_succ, List.getElem_cons_zero, Act.put, List.setIfInBounds_toArray, List.set_cons_zero, List.set_cons_succ]
        refine wpAnyH_take (i := 5) (v := ?v24) rfl (by kernel_rfl) (by kernel_rfl) (by kernel_rfl) (fun _ _ _ h => h) (Or.inl ⟨rfl, fun w' hw' => ?h24⟩) hHeld ?r24
        case h24 =>
          (go_simp; try (first | (rw [IntKind.wrap_i64]; omega) | omega))
          try with_reducible rfl
        simp only [List.getElem_toArray, List.getElem_cons_succ, List.getElem_cons_zero, Act.put, List.setIfInBounds_toArray, List.set_cons_zero, List.set_cons_succ]
        refine wpAnyH_take (i := 6) (v := ?v25) rfl (by kernel_rfl) (by kernel_rfl) (by kernel_rfl) (fun _ _ _ h => h) (Or.inl ⟨rfl, fun w' hw' => ?h25⟩) hHeld ?r25
        case h25 =>
          (obtain ⟨_, d0⟩ := hw'; go_simp)
          try with_reducible rfl
        simp only [List.getElem_toArray, List.getElem_cons_succ, List.getElem_cons_zero, Act.put, List.setIfInBounds_toArray, List.set_cons_zero, List.set_cons_succ]
        refine wpAnyH_take (i := 7) (v := ?v26) rfl (by kernel_rfl) (by kernel_rfl) (by kernel_rfl) (fun _ _ _ h => h) (Or.inl ⟨rfl, fun w' hw' => ?h26⟩) hHeld ?r26
        case h26 =>
          (go_simp; try (first | (rw [IntKind.wrap_i64]; omega) | omega))
          try with_reducible rfl
        simp only [List.getElem_toArray, List.getElem_cons_succ, List.getElem_cons_zero, Act.put, List.setIfInBounds_toArray, List.set_cons_zero, List.set_cons_succ]
        refine wpAnyH_take (i := 8) (v := ?v27) rfl (by kernel_rfl) (by kernel_rfl) (by kernel_rfl) (fun _ _ _ h => h) (Or.inl ⟨rfl, fun w' hw' => ?h27⟩) hHeld ?r27
        case h27 =>
          (go_simp; try (first | (rw [IntKind.wrap_i64]; omega) | omega))
          try with_reducible rfl
        simp only [List.getElem_toArray, List.getElem_cons_succ, List.getElem_cons_zero, Act.put, List.setIfInBounds_toArray, List.set_cons_zero, List.set_cons_succ]
        refine wpAnyH_take (i := 9) (v := ?v28) rfl (by kernel_rfl) (by kernel_rfl) (by kernel_rfl) (fun _ _ _ h => h) (Or.inl ⟨rfl, fun w' hw' => ?h28⟩) hHeld ?r28
        case h28 =>
          (go_simp; try (first | (rw [IntKind.wrap_i64]; omega) | omega))
          try with_reducible rfl
        simp only [List.getElem_toArray, List.getElem_cons_succ, List.getElem_cons_zero, Act.put, List.setIfInBounds_toArray, List.set_cons_zero, List.set_cons_succ]
        refine wpAnyH_take (i := 10) (v := ?v29) rfl (by kernel_rfl) (by kernel_rfl) (by kernel_rfl) (fun _ _ _ h => h) (Or.inl ⟨rfl, fun w' hw' => ?h29⟩) hHeld ?r29
        case h29 =>
          (go_simp; try (first | (rw [IntKind.wrap_i64]; omega) | omega))
          try with_reducible rfl
        simp only [List.getElem_toArray, List.getElem_cons_succ, List.getElem_cons_zero, Act.put, List.setIfInBounds_toArray, List.set_cons_zero, List.set_cons_succ]
        refine wpAnyH_take (i := 11) (v := Value.int .i64 (d : Int)) rfl (by kernel_rfl) (by kernel_rfl) (by kernel_rfl) (fun _ _ _ h => h) (Or.inl ⟨rfl, fun w' hw' => ?_⟩) hHeld ?_
        · (go_simp; try (first | (rw [IntKind.wrap_i64]; omega) | omega))
        simp only [List.getElem_toArray, List.getElem_cons_succ, List.getElem_cons_zero, Act.put, List.setIfInBounds_toArray, List.set_cons_zero, List.set_cons_succ]
        refine wpAnyH_ready (rs := [12]) (by kernel_rfl) (by simp) ?_
        refine (AllReadyH.cons rfl (fun K hK => ?_) AllReadyH.nil)
        go_simp
        refine (FPK.out X C pk an hX.out HV.out HT.out).mono ?_
        rintro e w3 ⟨rfl, C3, pk3, hm3, hs3⟩
        rw [← HRR.out]
        have HM3 := Lib.hid hm3
        have HS3 := Lib.hid (hSX.out.trans hs3)
        have HX3 := Lib.hid (hs3.ext an q HX.out)
        have c3 := hm3.1.k2
        rw [← HU.out] at c3
        have d3 := hm3.1.p.cell? HX3.out
        simp only [pval] at d3
        obtain ⟨l3, hl3, hl321, -⟩ := hm3.1.q an q HX3.out
        obtain ⟨v3, hv3⟩ : ∃ v3, l3[D]? = some v3 := ⟨_, List.getElem?_eq_getElem (by omega)⟩
        have e3 := hl3.cell? hv3
        have f3 := hl3.frz D
        have HSELF := Lib.hid (hl3.self (show D < l3.length by omega) r)
        clear hm3 hs3 hX hSX cX dX hl3 hl321 hv3
        refine hK.out _ _ ⟨c3, d3⟩ (fun hHeld => ?_)
        clear hK K
        try simp only [List.getElem_toArray, List.getElem_cons_succ, List.getElem_cons_zero, Act.put, List.setIfInBounds_toArray, List.set_cons_zero, List.set_cons_succ]
        refine wpAnyH_take (i := 13) (v := Value.pointer (some ⟨q, D, none⟩)) rfl (by kernel_rfl) (by kernel_rfl) (by kernel_rfl) (fun _ _ _ h => h) (Or.inl ⟨rfl, fun w' hw' => ?_⟩) hHeld ?_
        · (go_simp; try (first | (rw [IntKind.wrap_i64]; omega) | omega))
        simp only [List.getElem_toArray, List.getElem_cons_succ, List.getElem_cons_zero, Act.put, List.setIfInBounds_toArray, List.set_cons_zero, List.set_cons_succ]
        refine wpAnyH_ready (rs := [14]) (by kernel_rfl) (by simp) ?_
        refine (AllReadyH.cons rfl (fun K hK => ?_) AllReadyH.nil)
        go_simp
        have HM4 := Lib.hid (HM3.out.setpick HX3.out D (x := r) HSH.out.symm)
        have HS4 : Hid (Mst C pk w C3 pk3 (w3.setCell ⟨q, D, none⟩ (.int .i64 r))) := HS3.out.put (.inr (.inr (HM3.out.1.cq an q HX3.out))) _
        have c4 := HM4.out.1.k2
        rw [← HU.out] at c4
        have d4 := HM4.out.1.p.cell? HX3.out
        simp only [pval] at d4
        have e4 : (w3.setCell ⟨q, D, none⟩ (.int .i64 r)).cell? ⟨q, D, none⟩ = some (.int .i64 r) := HSELF.out
        clear HM3 HS3 c3 d3 e3 f3 HSELF
        refine hK.out _ _ ⟨c4, d4⟩ (fun hHeld => ?_)
        generalize w3.setCell ⟨q, D, none⟩ (.int .i64 r) = w4 at HM4 HS4 c4 d4 e4 ⊢
        clear hK K
        try simp only [List.getElem_toArray, List.getElem_cons_succ, List.getElem_cons_zero, Act.put, List.setIfInBounds_toArray, List.set_cons_zero, List.set_cons_succ]
        refine wpAnyH_done (by kernel_rfl) ?_ _
        refine NoPanic.normal ?_
        clear hHeld
        go_wp2_with fail
        go_ret
        exact ⟨rfl, C3, pk3, HM4.out, HS4.out⟩
      · have qv : (v == -1) = false := by simpa using hv1
        have hve : v = r := by
          rcases HPI.out with h | h
          · exact absurd h hv1
          · rw [h, HSH.out]
        subst hve
        clear HPI hv1
        go_wp2_with fail
        go_ret
        exact ⟨rfl, C, pk, HM2.out, HS2.out⟩
  · have qt : (((hdo os an).t : Int) != 6) = true := by
      have : ¬ ((hdo os an).t : Int) = 6 := by omega
      simpa using this
    have hr := HRE.out
    rw [if_neg ht] at hr
    subst hr
    clear ht HRE
    go_wp2_with fail
    go_ret
    exact ⟨rfl, C, pk, HM2.out, HS2.out⟩
theorem short_any {c b : Nat} {G : Option Nat} {os : List Ob} {m eb pb : Nat} : ∀ d, d ≤ 20 → ShC c b G os m eb pb d
  | 0, _ => short_zero c b G os m eb pb
  | d + 1, h => short_succ h (pick_of (short_any d (by omega)))
end Go.Proofs.Ytkekekdkfjjifaa
