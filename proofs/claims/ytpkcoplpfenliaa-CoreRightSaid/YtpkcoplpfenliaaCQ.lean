/- Copy. -/
import Derived.Test.YtpkcoplpfenliaaCP
namespace Go.Proofs.Ytpkcoplpfenliaa
open Go.RowKit Go.BigM
set_option linter.unusedVariables false
set_option linter.unusedSimpArgs false
set_option maxHeartbeats 8000000 in
set_option maxRecDepth 100000 in
theorem copy_any (n : Nat) : n ≤ 100000 → ∀ (d : Et), d.size ≤ n → d.fine → ∀ (S : Nat → Prop) (cs : Array Value) (w : World), Et.At S w d cs → Calls Try.prog 35 #[.agg cs] w (RetCopy d w) := by
  induction n with
  | zero => intro _ d hd; cases d; simp [Et.size] at hd
  | succ n ih0 =>
    intro hn d hd hfine S cs w hat
    have IH := Lib.hid (ih0 (by omega))
    clear ih0
    obtain ⟨k, t, ns, l⟩ := d
    rw [fine_mk] at hfine
    obtain ⟨-, hnl, -, hfl⟩ := hfine
    rw [EAt_mk] at hat
    obtain ⟨mv, lv, rfl, hm, hl⟩ := hat
    have hsz : Et.sizes l ≤ n := by simp only [Et.size] at hd; omega
    have hln := length_esizes l
    have hl5 : l.length ≤ 100000 := by omega
    have hm1 := hm.one
    have hl1 := hl.one
    obtain ⟨ao, cap, rfl⟩ := hl.form
    obtain ⟨no, nc, rfl⟩ := hm.form
    have hb1 : Below w.heap.size w ((w.alloc (.cells #[.int .i64 k, .string t, .slice no ns.length nc, .slice ao l.length cap] 28)).alloc (.cells Z4 28)) := ((Below.refl w.heap.size w).alloc (Nat.le_refl _) _).alloc (by simp) _
    have hrow : ((w.alloc (.cells #[.int .i64 k, .string t, .slice no ns.length nc, .slice ao l.length cap] 28)).alloc (.cells Z4 28)).heap[w.heap.size]? = some (.cells #[.int .i64 k, .string t, .slice no ns.length nc, .slice ao l.length cap] 28 (0, 0)) := (Lib.alloc_old _ _ _ (by simp)).trans (alloc_at w _)
    have hz : ((w.alloc (.cells #[.int .i64 k, .string t, .slice no ns.length nc, .slice ao l.length cap] 28)).alloc (.cells Z4 28)).heap[w.heap.size + 1]? = some (.cells Z4 28 (0, 0)) := by
      have h := alloc_at (w.alloc (.cells #[.int .i64 k, .string t, .slice no ns.length nc, .slice ao l.length cap] 28)) (.cells Z4 28)
      have e : (w.alloc (.cells #[.int .i64 k, .string t, .slice no ns.length nc, .slice ao l.length cap] 28)).heap.size = w.heap.size + 1 := by simp
      rw [e] at h; exact h
    have hs1 : ((w.alloc (.cells #[.int .i64 k, .string t, .slice no ns.length nc, .slice ao l.length cap] 28)).alloc (.cells Z4 28)).heap.size = w.heap.size + 2 := by simp
    have HB1 := Lib.hid hb1
    have HRW := Lib.hid hrow
    have HZ := Lib.hid hz
    have HM := Lib.hid (hm.keeps (Keeps.of_below hb1))
    have HL := Lib.hid (hl.keeps (Keeps.of_below hb1))
    have HFL := Lib.hid hfl
    clear hb1 hrow hz hm hl hfl hd
    go_enter Try.func35, Try.ntmps35
    go_upto_region 1 with fail
    generalize (w.alloc (.cells #[.int .i64 k, .string t, .slice no ns.length nc, .slice ao l.length cap] 28)).alloc (.cells #[.int .i64 0, .string ⟨#[]⟩, .slice none 0 0, .slice none 0 0] 28) = W1 at HB1 HRW HZ HM HL hs1 ⊢
    obtain ⟨gs, hgs0⟩ : ∃ gs, gs = w.heap.size := ⟨_, rfl⟩
    obtain ⟨gr, hgr0⟩ : ∃ gr, gr = gs + 1 := ⟨_, rfl⟩
    rw [← hgs0] at HRW
    rw [← hgs0, ← hgr0] at HZ
    simp only [← hgs0]
    simp only [← hgr0]
    have hgs1 : gs < W1.heap.size := by omega
    have hgr1 : gr < W1.heap.size := by omega
    have hgrs : gr ≠ gs := by omega
    have HGS := Lib.hid hgs0
    have HGR := Lib.hid hgr0
    have HS1 := Lib.hid hs1
    clear hgs0 hgr0 hs1
    have HCS : Hid (∀ w', Below W1.heap.size W1 w' → w'.cell? ⟨gs, 0, none⟩ = some (.int .i64 k) ∧ w'.cell? ⟨gs, 1, none⟩ = some (.string t) ∧ w'.cell? ⟨gs, 2, none⟩ = some (.slice no ns.length nc) ∧ w'.cell? ⟨gs, 3, none⟩ = some (.slice ao l.length cap)) := fun w' hw' => EB.cell w' gs k t _ _ (row_below hw' HRW.out)
    refine wp_region_noPanic ?_
    refine wp_region_held_drew (S := Below W1.heap.size W1) (by kernel_rfl) ((Below.refl _ _).drew) (fun hHeld => ?_)
    have HX : Hid (Below W1.heap.size W1 W1.drew) := (Below.refl _ _).drew
    have hxs : W1.drew.heap.size = W1.heap.size := rfl
    clear hxs
    generalize W1.drew = X at HX hHeld ⊢
    refine wpAnyH_take (i := 0) (v := Value.pointer (some ⟨gs, 0, none⟩)) rfl (by kernel_rfl) (by kernel_rfl) (by kernel_rfl) (fun _ _ _ h => h) (Or.inl ⟨rfl, fun w' hw' => ?_⟩) hHeld ?_
    · go_simp
    simp only [List.getElem_toArray, List.getElem_cons_succ, List.getElem_cons_zero, Act.put, List.setIfInBounds_toArray, List.set_cons_zero, List.set_cons_succ]
    refine wpAnyH_take (i := 1) (v := Value.int .i64 k) rfl (by kernel_rfl) (by kernel_rfl) (by kernel_rfl) (fun _ _ _ h => h) (Or.inl ⟨rfl, fun w' hw' => ?_⟩) hHeld ?_
    · obtain ⟨d0, d1, d2, d3⟩ := HCS.out w' hw'; go_simp
    simp only [List.getElem_toArray, List.getElem_cons_succ, List.getElem_cons_zero, Act.put, List.setIfInBounds_toArray, List.set_cons_zero, List.set_cons_succ]
    refine wpAnyH_take (i := 2) (v := Value.pointer (some ⟨gs, 1, none⟩)) rfl (by kernel_rfl) (by kernel_rfl) (by kernel_rfl) (fun _ _ _ h => h) (Or.inl ⟨rfl, fun w' hw' => ?_⟩) hHeld ?_
    · go_simp
    simp only [List.getElem_toArray, List.getElem_cons_succ, List.getElem_cons_zero, Act.put, List.setIfInBounds_toArray, List.set_cons_zero, List.set_cons_succ]
    refine wpAnyH_take (i := 3) (v := Value.string t) rfl (by kernel_rfl) (by kernel_rfl) (by kernel_rfl) (fun _ _ _ h => h) (Or.inl ⟨rfl, fun w' hw' => ?_⟩) hHeld ?_
    · obtain ⟨d0, d1, d2, d3⟩ := HCS.out w' hw'; go_simp
    simp only [List.getElem_toArray, List.getElem_cons_succ, List.getElem_cons_zero, Act.put, List.setIfInBounds_toArray, List.set_cons_zero, List.set_cons_succ]
    refine wpAnyH_take (i := 5) (v := Value.pointer (some ⟨gs, 2, none⟩)) rfl (by kernel_rfl) (by kernel_rfl) (by kernel_rfl) (fun _ _ _ h => h) (Or.inl ⟨rfl, fun w' hw' => ?_⟩) hHeld ?_
    · go_simp
    simp only [List.getElem_toArray, List.getElem_cons_succ, List.getElem_cons_zero, Act.put, List.setIfInBounds_toArray, List.set_cons_zero, List.set_cons_succ]
    refine wpAnyH_take (i := 6) (v := Value.slice no ns.length nc) rfl (by kernel_rfl) (by kernel_rfl) (by kernel_rfl) (fun _ _ _ h => h) (Or.inl ⟨rfl, fun w' hw' => ?_⟩) hHeld ?_
    · obtain ⟨d0, d1, d2, d3⟩ := HCS.out w' hw'; go_simp
    simp only [List.getElem_toArray, List.getElem_cons_succ, List.getElem_cons_zero, Act.put, List.setIfInBounds_toArray, List.set_cons_zero, List.set_cons_succ]
    refine wpAnyH_ready (rs := [4, 9]) (by kernel_rfl) (by simp) ?_
    refine (AllReadyH.cons rfl (fun K hK => ?_) (AllReadyH.cons rfl (fun K hK => ?_) AllReadyH.nil))
    · skip
      have HB4 : Hid (Below W1.heap.size W1 (X.alloc (.cells #[] 9))) := HX.out.alloc HX.out.size _
      have HL4 := Lib.hid (OwnN.lit W1.heap.size X HX.out.size)
      have HM4 := Lib.hid (HM.out.keeps (Keeps.of_below HB4.out))
      have hB4 : W1.heap.size ≤ (X.alloc (.cells #[] 9)).heap.size := HB4.out.size
      go_simp
      refine hK.out _ _ HB4.out (fun hHeld => ?_)
      clear hK K
      try simp only [List.getElem_toArray, List.getElem_cons_succ, List.getElem_cons_zero, Act.put, List.setIfInBounds_toArray, List.set_cons_zero, List.set_cons_succ]
      refine wpAnyH_ready (rs := [7, 9]) (by kernel_rfl) (by simp) ?_
      refine (AllReadyH.cons rfl (fun K hK => ?_) (AllReadyH.cons rfl (fun K hK => ?_) AllReadyH.nil))
      · skip
        refine wp_appNs (Operand.tmp 9) (Operand.tmp 11) rfl W1.heap.size (X.heap.size) 0 (by go_simp) HL4.out _ ns rfl HM4.out (by omega) hB4 ?_
        intro v' w9 hown9 hg9
        obtain ⟨no', nc', rfl⟩ := own_form hown9
        have HB7 : Hid (Below W1.heap.size W1 w9) := HB4.out.grown hg9 hB4 (fun x hx => by injection hx with hx; have := HX.out.size; have : (X.alloc (.cells Z4 28)).heap.size = X.heap.size + 1 := (by simp); omega)
        have HN7 := Lib.hid hown9
        clear hown9 hg9
        refine hK.out _ _ HB7.out (fun hHeld => ?_)
        clear hK K
        try simp only [List.getElem_toArray, List.getElem_cons_succ, List.getElem_cons_zero, Act.put, List.setIfInBounds_toArray, List.set_cons_zero, List.set_cons_succ]
        refine wpAnyH_take (i := 8) (v := Value.agg #[.int .i64 k, .string t, .slice no' ns.length nc', .slice none 0 0]) rfl (by kernel_rfl) (by kernel_rfl) (by kernel_rfl) (fun _ _ _ h => h) (Or.inl ⟨rfl, fun w' hw' => ?_⟩) hHeld ?_
        · go_simp
        simp only [List.getElem_toArray, List.getElem_cons_succ, List.getElem_cons_zero, Act.put, List.setIfInBounds_toArray, List.set_cons_zero, List.set_cons_succ]
        refine wpAnyH_ready (rs := [9]) (by kernel_rfl) (by simp) ?_
        refine (AllReadyH.cons rfl (fun K hK => ?_) AllReadyH.nil)
        have HB9 : Hid (Below W1.heap.size W1 (w9.alloc (.cells Z4 28))) := HB7.out.alloc HB7.out.size _
        have HZ9 : Hid ((w9.alloc (.cells Z4 28)).heap[w9.heap.size]? = some (.cells Z4 28 (0, 0))) := alloc_at w9 _
        have hge9 : W1.heap.size ≤ w9.heap.size := HB7.out.size
        have HN9 := Lib.hid (HN7.out.below ((Below.refl _ _).alloc (Nat.le_refl _) (.cells Z4 28)))
        go_simp
        refine hK.out _ _ HB9.out (fun hHeld => ?_)
        clear hK K
        try simp only [List.getElem_toArray, List.getElem_cons_succ, List.getElem_cons_zero, Act.put, List.setIfInBounds_toArray, List.set_cons_zero, List.set_cons_succ]
        obtain ⟨x1, x2, x3, hgeb, hap⟩ := copy_start (k := k) (t := t) (l := l) HB9.out HZ9.out hge9 HN9.out
        have HXB := Lib.hid x1
        have HXN := Lib.hid x2
        have H0 := Lib.hid x3
        have hone : (#[.int .i64 k, .string t, .slice no' ns.length nc', .slice none 0 0] : Array Value).all (·.oneCell') = true := by simp [Value.oneCell']
        clear x1 x2 x3
        refine wpAnyH_ready (rs := [10]) (by kernel_rfl) (by simp) ?_
        refine (AllReadyH.cons rfl (fun K hK => ?_) AllReadyH.nil)
        refine wp_store_row 28 _ _ rfl (w9.heap.size) #[.int .i64 k, .string t, .slice no' ns.length nc', .slice none 0 0] (by go_simp) rfl 28 Z4 HZ9.out info28 rfl hone ?_
        refine hK.out _ _ HXB.out (fun hHeld => ?_)
        clear hK K
        try simp only [List.getElem_toArray, List.getElem_cons_succ, List.getElem_cons_zero, Act.put, List.setIfInBounds_toArray, List.set_cons_zero, List.set_cons_succ]
        refine wpAnyH_done (by kernel_rfl) ?_ _
        refine NoPanic.normal ?_
        clear hHeld
        generalize (w9.alloc (.cells Z4 28)).setRow w9.heap.size #[.int .i64 k, .string t, .slice no' ns.length nc', .slice none 0 0] = W0 at HXB HXN H0 hgeb ⊢
        generalize w9.heap.size = ge at H0 hgeb hge9 hap ⊢
        have hgse : gs ≠ ge := by omega
        have HAP := Lib.hid hap
        have hW01 : W1.heap.size ≤ W0.heap.size := HXB.out.size
        clear hap
        go_wp2_with fail
        go_loopw [4] (fun iv wr => LC W0 ge k t (.slice no' ns.length nc') l iv wr) (fun iv _ => l.length - (intOf iv).toNat)
        case atStart => exact H0.out
        case round =>
          clear H0
          obtain ⟨i, av, hi, rfl, hown, heb, hbut⟩ := hrel
          have hs0 := hbut.size
          have hlt : (l.take i).length = i := by rw [List.length_take]; omega
          obtain ⟨ao5, ac5, rfl⟩ : ∃ ao5 ac5, av = .slice ao5 i ac5 := by
            obtain ⟨xs, ho, _⟩ := hown
            rw [hlt] at ho
            exact own_form ho
          have HBr : Hid (Below W1.heap.size W1 wr) := HXB.out.trans (hbut.toBelow hW01 hge9)
          have c3 := (EB.cell _ _ _ _ _ _ heb).2.2.2
          have HEB := Lib.hid heb
          have HOW := Lib.hid hown
          have HBT := Lib.hid hbut
          have hi1 : i + 1 ≤ 1000000000 := by omega
          obtain ⟨-, -, -, cs3⟩ := HCS.out wr HBr.out
          clear heb hown hbut hlt
          by_cases hil : i < l.length
          · have q3 : decide ((i : Int) < (l.length : Int)) = true := decide_eq_true (by omega)
            obtain ⟨g4, o4, k', t', mv', lv', rfl, -, -, hati, e0, e1, e2, e3, o1', o2'⟩ := HL.out.get i hil
            have HD : Hid (∀ w', But W0.heap.size ge wr w' → w'.cell? ⟨g4, o4 + i * 4, none⟩ = some (.int .i64 k') ∧ w'.cell? ⟨g4, o4 + i * 4 + 1, none⟩ = some (.string t') ∧ w'.cell? ⟨g4, o4 + i * 4 + 2, none⟩ = some mv' ∧ w'.cell? ⟨g4, o4 + i * 4 + 3, none⟩ = some lv') := fun w' hw' => ⟨cell_below (HBr.out.trans (hw'.toBelow hW01 hge9)) e0, cell_below (HBr.out.trans (hw'.toBelow hW01 hge9)) e1, cell_below (HBr.out.trans (hw'.toBelow hW01 hge9)) e2, cell_below (HBr.out.trans (hw'.toBelow hW01 hge9)) e3⟩
            have HSC : Hid (∀ w', But W0.heap.size ge wr w' → w'.cell? ⟨gs, 3, none⟩ = some (.slice (some ⟨g4, o4, none⟩) l.length cap)) := fun w' hw' => (HCS.out w' (HBr.out.trans (hw'.toBelow hW01 hge9))).2.2.2
            have hsj := esize_get l i hil
            have HP := Lib.hid (IH.out l[i] (by omega) (HFL.out _ (List.getElem_mem hil)) S #[.int .i64 k', .string t', mv', lv'] wr.drew (Et.At.keeps (Keeps.of_below (HBr.out.trans (((Below.refl wr.heap.size wr).drew).mono HBr.out.size))) _ _ hati))
            have HS0 : Hid (But W0.heap.size ge wr wr.drew) := (But.refl _ _ _).drew
            clear e0 e1 e2 e3 hati hsj
            go_upto_region 5 with fail
            refine wp_region_noPanic ?_
            refine wp_region_held_drew (S := But W0.heap.size ge wr) (by kernel_rfl) ((But.refl _ _ _).drew) (fun hHeld => ?_)
            refine wpAnyH_take (i := 0) (v := Value.pointer (some ⟨ge, 3, none⟩)) rfl (by kernel_rfl) (by kernel_rfl) (by kernel_rfl) (fun _ _ _ h => h) (Or.inl ⟨rfl, fun w' hw' => ?_⟩) hHeld ?_
            · go_simp
            simp only [List.getElem_toArray, List.getElem_cons_succ, List.getElem_cons_zero, Act.put, List.setIfInBounds_toArray, List.set_cons_zero, List.set_cons_succ]
            refine wpAnyH_take (i := 2) (v := Value.pointer (some ⟨gs, 3, none⟩)) rfl (by kernel_rfl) (by kernel_rfl) (by kernel_rfl) (fun _ _ _ h => h) (Or.inl ⟨rfl, fun w' hw' => ?_⟩) hHeld ?_
            · go_simp
            simp only [List.getElem_toArray, List.getElem_cons_succ, List.getElem_cons_zero, Act.put, List.setIfInBounds_toArray, List.set_cons_zero, List.set_cons_succ]
            refine wpAnyH_take (i := 3) (v := Value.slice (some ⟨g4, o4, none⟩) l.length cap) rfl (by kernel_rfl) (by kernel_rfl) (by kernel_rfl) (fun _ _ _ h => h) (Or.inl ⟨rfl, fun w' hw' => ?_⟩) hHeld ?_
            · have q9 := HSC.out w' hw'; go_simp
            simp only [List.getElem_toArray, List.getElem_cons_succ, List.getElem_cons_zero, Act.put, List.setIfInBounds_toArray, List.set_cons_zero, List.set_cons_succ]
            refine wpAnyH_take (i := 4) (v := Value.int .i64 (i : Int)) rfl (by kernel_rfl) (by kernel_rfl) (by kernel_rfl) (fun _ _ _ h => h) (Or.inl ⟨rfl, fun w' hw' => ?_⟩) hHeld ?_
            · go_simp
            simp only [List.getElem_toArray, List.getElem_cons_succ, List.getElem_cons_zero, Act.put, List.setIfInBounds_toArray, List.set_cons_zero, List.set_cons_succ]
            refine wpAnyH_take (i := 5) (v := Value.pointer (some ⟨g4, o4 + i * 4, none⟩)) rfl (by kernel_rfl) (by kernel_rfl) (by kernel_rfl) (fun _ _ _ h => h) (Or.inl ⟨rfl, fun w' hw' => ?_⟩) hHeld ?_
            · go_simp
            simp only [List.getElem_toArray, List.getElem_cons_succ, List.getElem_cons_zero, Act.put, List.setIfInBounds_toArray, List.set_cons_zero, List.set_cons_succ]
            refine wpAnyH_take (i := 6) (v := Value.agg #[.int .i64 k', .string t', mv', lv']) rfl (by kernel_rfl) (by kernel_rfl) (by kernel_rfl) (fun _ _ _ h => h) (Or.inl ⟨rfl, fun w' hw' => ?_⟩) hHeld ?_
            · obtain ⟨d0, d1, d2, d3⟩ := HD.out w' hw'; go_simp
            simp only [List.getElem_toArray, List.getElem_cons_succ, List.getElem_cons_zero, Act.put, List.setIfInBounds_toArray, List.set_cons_zero, List.set_cons_succ]
            refine wpAnyH_ready (rs := [1, 7]) (by kernel_rfl) (by simp) ?_
            refine (AllReadyH.cons rfl (fun K hK => ?_) (AllReadyH.cons rfl (fun K hK => ?_) AllReadyH.nil))
            · skip
              go_simp
              refine hK.out _ _ HS0.out (fun hHeld => ?_)
              clear hK K
              try simp only [List.getElem_toArray, List.getElem_cons_succ, List.getElem_cons_zero, Act.put, List.setIfInBounds_toArray, List.set_cons_zero, List.set_cons_succ]
              refine wpAnyH_ready (rs := [7]) (by kernel_rfl) (by simp) ?_
              refine (AllReadyH.cons rfl (fun K hK => ?_) AllReadyH.nil)
              go_simp
              refine HP.out.mono ?_
              intro e w7 hret
              obtain ⟨k5, t5, nv5, av5, rfl, hat, hb7⟩ := hret.at
              have hb7 : Below wr.heap.size wr w7 := ((Below.refl wr.heap.size wr).drew).trans hb7
              have o1 : nv5.oneCell' = true := (EAt_one hat).1
              have o2 : av5.oneCell' = true := (EAt_one hat).2
              obtain ⟨S7, c7, S8, c8, xs, hx8, hB8, hc9⟩ := LC.step hil hl5 HOW.out HEB.out HBT.out hgeb hat rfl hb7
              have HS7 := Lib.hid S7
              have HS8 := Lib.hid S8
              have HX := Lib.hid hx8
              have HB8 := Lib.hid hB8
              have HC := Lib.hid hc9
              have HONE : Hid (nv5.oneCell' = true ∧ av5.oneCell' = true) := ⟨o1, o2⟩
              clear hat hb7 S7 S8 hx8 hB8 hc9 o1 o2 hret
              refine hK.out _ _ HS7.out (fun hHeld => ?_)
              clear hK K
              try simp only [List.getElem_toArray, List.getElem_cons_succ, List.getElem_cons_zero, Act.put, List.setIfInBounds_toArray, List.set_cons_zero, List.set_cons_succ]
              refine wpAnyH_ready (rs := [8]) (by kernel_rfl) (by simp) ?_
              refine (AllReadyH.cons rfl (fun K hK => ?_) AllReadyH.nil)
              go_simp
              refine hK.out _ _ HS8.out (fun hHeld => ?_)
              clear hK K
              try simp only [List.getElem_toArray, List.getElem_cons_succ, List.getElem_cons_zero, Act.put, List.setIfInBounds_toArray, List.set_cons_zero, List.set_cons_succ]
              refine wpAnyH_ready (rs := [9]) (by kernel_rfl) (by simp) ?_
              refine (AllReadyH.cons rfl (fun K hK => ?_) AllReadyH.nil)
              refine wp_app (Operand.tmp 22) (Operand.tmp 29) rfl W0.heap.size (.slice ao5 i ac5) i xs rfl HX.out _ 1 rfl #[.int .i64 k5, .string t5, nv5, av5].toList rfl (row_cells _ _) (one_cells HONE.out) hi1 HB8.out ?_
              intro v' w9 hown9 hg9 hv9
              obtain ⟨ao', ac', rfl⟩ := own_form hown9
              obtain ⟨S9, e9, f9, S10, HREL⟩ := HC.out _ _ _ hown9 hg9 hv9
              have HS9 := Lib.hid S9
              have HS10 := Lib.hid S10
              have HR9 := Lib.hid HREL
              clear hown9 hg9 hv9 S9 S10 HREL
              refine hK.out _ _ HS9.out (fun hHeld => ?_)
              clear hK K
              try simp only [List.getElem_toArray, List.getElem_cons_succ, List.getElem_cons_zero, Act.put, List.setIfInBounds_toArray, List.set_cons_zero, List.set_cons_succ]
              refine wpAnyH_take (i := 10) (v := Value.pointer (some ⟨ge, 3, none⟩)) rfl (by kernel_rfl) (by kernel_rfl) (by kernel_rfl) (fun _ _ _ h => h) (Or.inl ⟨rfl, fun w' hw' => ?_⟩) hHeld ?_
              · go_simp
              simp only [List.getElem_toArray, List.getElem_cons_succ, List.getElem_cons_zero, Act.put, List.setIfInBounds_toArray, List.set_cons_zero, List.set_cons_succ]
              refine wpAnyH_ready (rs := [11]) (by kernel_rfl) (by simp) ?_
              refine (AllReadyH.cons rfl (fun K hK => ?_) AllReadyH.nil)
              go_simp
              refine hK.out _ _ HS10.out (fun hHeld => ?_)
              clear hK K
              try simp only [List.getElem_toArray, List.getElem_cons_succ, List.getElem_cons_zero, Act.put, List.setIfInBounds_toArray, List.set_cons_zero, List.set_cons_succ]
              refine wpAnyH_done (by kernel_rfl) ?_ _
              refine NoPanic.normal ?_
              clear hHeld
              go_wp2_with fail
              go_roundw
              case rel => exact HR9.out
              case measure => simp [intOf]; omega
            · skip
              go_simp
              refine HP.out.mono ?_
              intro e w7 hret
              obtain ⟨k5, t5, nv5, av5, rfl, hat, hb7⟩ := hret.at
              have hb7 : Below wr.heap.size wr w7 := ((Below.refl wr.heap.size wr).drew).trans hb7
              have o1 : nv5.oneCell' = true := (EAt_one hat).1
              have o2 : av5.oneCell' = true := (EAt_one hat).2
              obtain ⟨S7, c7, S8, c8, xs, hx8, hB8, hc9⟩ := LC.step hil hl5 HOW.out HEB.out HBT.out hgeb hat rfl hb7
              have HS7 := Lib.hid S7
              have HS8 := Lib.hid S8
              have HX := Lib.hid hx8
              have HB8 := Lib.hid hB8
              have HC := Lib.hid hc9
              have HONE : Hid (nv5.oneCell' = true ∧ av5.oneCell' = true) := ⟨o1, o2⟩
              clear hat hb7 S7 S8 hx8 hB8 hc9 o1 o2 hret
              refine hK.out _ _ HS7.out (fun hHeld => ?_)
              clear hK K
              try simp only [List.getElem_toArray, List.getElem_cons_succ, List.getElem_cons_zero, Act.put, List.setIfInBounds_toArray, List.set_cons_zero, List.set_cons_succ]
              refine wpAnyH_ready (rs := [1, 8]) (by kernel_rfl) (by simp) ?_
              refine (AllReadyH.cons rfl (fun K hK => ?_) (AllReadyH.cons rfl (fun K hK => ?_) AllReadyH.nil))
              · skip
                go_simp
                refine hK.out _ _ HS7.out (fun hHeld => ?_)
                clear hK K
                try simp only [List.getElem_toArray, List.getElem_cons_succ, List.getElem_cons_zero, Act.put, List.setIfInBounds_toArray, List.set_cons_zero, List.set_cons_succ]
                refine wpAnyH_ready (rs := [8]) (by kernel_rfl) (by simp) ?_
                refine (AllReadyH.cons rfl (fun K hK => ?_) AllReadyH.nil)
                go_simp
                refine hK.out _ _ HS8.out (fun hHeld => ?_)
                clear hK K
                try simp only [List.getElem_toArray, List.getElem_cons_succ, List.getElem_cons_zero, Act.put, List.setIfInBounds_toArray, List.set_cons_zero, List.set_cons_succ]
                refine wpAnyH_ready (rs := [9]) (by kernel_rfl) (by simp) ?_
                refine (AllReadyH.cons rfl (fun K hK => ?_) AllReadyH.nil)
                refine wp_app (Operand.tmp 22) (Operand.tmp 29) rfl W0.heap.size (.slice ao5 i ac5) i xs rfl HX.out _ 1 rfl #[.int .i64 k5, .string t5, nv5, av5].toList rfl (row_cells _ _) (one_cells HONE.out) hi1 HB8.out ?_
                intro v' w9 hown9 hg9 hv9
                obtain ⟨ao', ac', rfl⟩ := own_form hown9
                obtain ⟨S9, e9, f9, S10, HREL⟩ := HC.out _ _ _ hown9 hg9 hv9
                have HS9 := Lib.hid S9
                have HS10 := Lib.hid S10
                have HR9 := Lib.hid HREL
                clear hown9 hg9 hv9 S9 S10 HREL
                refine hK.out _ _ HS9.out (fun hHeld => ?_)
                clear hK K
                try simp only [List.getElem_toArray, List.getElem_cons_succ, List.getElem_cons_zero, Act.put, List.setIfInBounds_toArray, List.set_cons_zero, List.set_cons_succ]
                refine wpAnyH_take (i := 10) (v := Value.pointer (some ⟨ge, 3, none⟩)) rfl (by kernel_rfl) (by kernel_rfl) (by kernel_rfl) (fun _ _ _ h => h) (Or.inl ⟨rfl, fun w' hw' => ?_⟩) hHeld ?_
                · go_simp
                simp only [List.getElem_toArray, List.getElem_cons_succ, List.getElem_cons_zero, Act.put, List.setIfInBounds_toArray, List.set_cons_zero, List.set_cons_succ]
                refine wpAnyH_ready (rs := [11]) (by kernel_rfl) (by simp) ?_
                refine (AllReadyH.cons rfl (fun K hK => ?_) AllReadyH.nil)
                go_simp
                refine hK.out _ _ HS10.out (fun hHeld => ?_)
                clear hK K
                try simp only [List.getElem_toArray, List.getElem_cons_succ, List.getElem_cons_zero, Act.put, List.setIfInBounds_toArray, List.set_cons_zero, List.set_cons_succ]
                refine wpAnyH_done (by kernel_rfl) ?_ _
                refine NoPanic.normal ?_
                clear hHeld
                go_wp2_with fail
                go_roundw
                case rel => exact HR9.out
                case measure => simp [intOf]; omega
              · skip
                go_simp
                refine hK.out _ _ HS8.out (fun hHeld => ?_)
                clear hK K
                try simp only [List.getElem_toArray, List.getElem_cons_succ, List.getElem_cons_zero, Act.put, List.setIfInBounds_toArray, List.set_cons_zero, List.set_cons_succ]
                refine wpAnyH_ready (rs := [1]) (by kernel_rfl) (by simp) ?_
                refine (AllReadyH.cons rfl (fun K hK => ?_) AllReadyH.nil)
                go_simp
                refine hK.out _ _ HS8.out (fun hHeld => ?_)
                clear hK K
                try simp only [List.getElem_toArray, List.getElem_cons_succ, List.getElem_cons_zero, Act.put, List.setIfInBounds_toArray, List.set_cons_zero, List.set_cons_succ]
                refine wpAnyH_ready (rs := [9]) (by kernel_rfl) (by simp) ?_
                refine (AllReadyH.cons rfl (fun K hK => ?_) AllReadyH.nil)
                refine wp_app (Operand.tmp 22) (Operand.tmp 29) rfl W0.heap.size (.slice ao5 i ac5) i xs rfl HX.out _ 1 rfl #[.int .i64 k5, .string t5, nv5, av5].toList rfl (row_cells _ _) (one_cells HONE.out) hi1 HB8.out ?_
                intro v' w9 hown9 hg9 hv9
                obtain ⟨ao', ac', rfl⟩ := own_form hown9
                obtain ⟨S9, e9, f9, S10, HREL⟩ := HC.out _ _ _ hown9 hg9 hv9
                have HS9 := Lib.hid S9
                have HS10 := Lib.hid S10
                have HR9 := Lib.hid HREL
                clear hown9 hg9 hv9 S9 S10 HREL
                refine hK.out _ _ HS9.out (fun hHeld => ?_)
                clear hK K
                try simp only [List.getElem_toArray, List.getElem_cons_succ, List.getElem_cons_zero, Act.put, List.setIfInBounds_toArray, List.set_cons_zero, List.set_cons_succ]
                refine wpAnyH_take (i := 10) (v := Value.pointer (some ⟨ge, 3, none⟩)) rfl (by kernel_rfl) (by kernel_rfl) (by kernel_rfl) (fun _ _ _ h => h) (Or.inl ⟨rfl, fun w' hw' => ?_⟩) hHeld ?_
                · go_simp
                simp only [List.getElem_toArray, List.getElem_cons_succ, List.getElem_cons_zero, Act.put, List.setIfInBounds_toArray, List.set_cons_zero, List.set_cons_succ]
                refine wpAnyH_ready (rs := [11]) (by kernel_rfl) (by simp) ?_
                refine (AllReadyH.cons rfl (fun K hK => ?_) AllReadyH.nil)
                go_simp
                refine hK.out _ _ HS10.out (fun hHeld => ?_)
                clear hK K
                try simp only [List.getElem_toArray, List.getElem_cons_succ, List.getElem_cons_zero, Act.put, List.setIfInBounds_toArray, List.set_cons_zero, List.set_cons_succ]
                refine wpAnyH_done (by kernel_rfl) ?_ _
                refine NoPanic.normal ?_
                clear hHeld
                go_wp2_with fail
                go_roundw
                case rel => exact HR9.out
                case measure => simp [intOf]; omega
          · have q3 : decide ((i : Int) < (l.length : Int)) = false := decide_eq_false (by omega)
            obtain rfl : i = l.length := by omega
            have hz : wr.heap[gr]? = some (.cells Z4 28 (0, 0)) := row_below HBr.out HZ.out
            have hww := HB1.out.size
            have hown9 := HOW.out
            rw [List.take_length] at hown9
            have hgrw : w.heap.size ≤ gr := by have := HGR.out; have := HGS.out; omega
            have HF := Lib.hid (copy_end (k := k) (t := t) HB1.out HXB.out HBT.out HXN.out HAP.out hgrw hgr1 hge9 hown9)
            have hone : (#[.int .i64 k, .string t, .slice no' ns.length nc', .slice ao5 l.length ac5] : Array Value).all (·.oneCell') = true := by simp [Value.oneCell']
            have HZr := Lib.hid hz
            clear hown9 hz hww
            go_wp2_with (first | (refine wpList_load_row rfl 28 _ rfl ge rfl 28 #[.int .i64 k, .string t, .slice no' ns.length nc', .slice ao5 l.length ac5] (0, 0) _ HEB.out Try.underlying28 rfl info28 ?_) | (refine wpList_store_row rfl 28 _ _ rfl gr #[.int .i64 k, .string t, .slice no' ns.length nc', .slice ao5 l.length ac5] rfl rfl 28 Z4 HZr.out info28 rfl hone ?_))
            refine bodyPost_ret (results_cell_row rfl _ _ gr 28 #[.int .i64 k, .string t, .slice no' ns.length nc', .slice ao5 l.length ac5] (0, 0) _ rfl (setRow_heap wr _ _ _ 28 _ HZr.out) Try.underlying28 rfl info28) rfl ?_
            exact HF.out
      · skip
        have HB9 : Hid (Below W1.heap.size W1 ((X.alloc (.cells #[] 9)).alloc (.cells Z4 28))) := HB4.out.alloc HB4.out.size _
        have HZ9 : Hid (((X.alloc (.cells #[] 9)).alloc (.cells Z4 28)).heap[(X.alloc (.cells #[] 9)).heap.size]? = some (.cells Z4 28 (0, 0))) := alloc_at (X.alloc (.cells #[] 9)) _
        have hge9 : W1.heap.size ≤ (X.alloc (.cells #[] 9)).heap.size := HB4.out.size
        go_simp
        refine hK.out _ _ HB9.out (fun hHeld => ?_)
        clear hK K
        try simp only [List.getElem_toArray, List.getElem_cons_succ, List.getElem_cons_zero, Act.put, List.setIfInBounds_toArray, List.set_cons_zero, List.set_cons_succ]
        refine wpAnyH_ready (rs := [7]) (by kernel_rfl) (by simp) ?_
        refine (AllReadyH.cons rfl (fun K hK => ?_) AllReadyH.nil)
        have HL5 := Lib.hid (HL4.out.below ((Below.refl _ _).alloc (Nat.le_refl _) (.cells Z4 28)))
        have HM5 := Lib.hid (HM.out.keeps (Keeps.of_below HB9.out))
        have hB5 : W1.heap.size ≤ ((X.alloc (.cells #[] 9)).alloc (.cells Z4 28)).heap.size := HB9.out.size
        refine wp_appNs (Operand.tmp 9) (Operand.tmp 11) rfl W1.heap.size (X.heap.size) 0 (by go_simp) HL5.out _ ns rfl HM5.out (by omega) hB5 ?_
        intro v' w9 hown9 hg9
        obtain ⟨no', nc', rfl⟩ := own_form hown9
        have HB7 : Hid (Below W1.heap.size W1 w9) := HB9.out.grown hg9 hB5 (fun x hx => by injection hx with hx; have := HX.out.size; have : (X.alloc (.cells Z4 28)).heap.size = X.heap.size + 1 := (by simp); omega)
        have HN7 := Lib.hid hown9
        have HZ7 : Hid (w9.heap[(X.alloc (.cells #[] 9)).heap.size]? = some (.cells Z4 28 (0, 0))) := (hg9.block _ (Array.getElem?_eq_some_iff.1 HZ9.out).1 (fun e => by injection e with e; simp at e)).trans HZ9.out
        clear hown9 hg9
        refine hK.out _ _ HB7.out (fun hHeld => ?_)
        clear hK K
        try simp only [List.getElem_toArray, List.getElem_cons_succ, List.getElem_cons_zero, Act.put, List.setIfInBounds_toArray, List.set_cons_zero, List.set_cons_succ]
        refine wpAnyH_take (i := 8) (v := Value.agg #[.int .i64 k, .string t, .slice no' ns.length nc', .slice none 0 0]) rfl (by kernel_rfl) (by kernel_rfl) (by kernel_rfl) (fun _ _ _ h => h) (Or.inl ⟨rfl, fun w' hw' => ?_⟩) hHeld ?_
        · go_simp
        simp only [List.getElem_toArray, List.getElem_cons_succ, List.getElem_cons_zero, Act.put, List.setIfInBounds_toArray, List.set_cons_zero, List.set_cons_succ]
        obtain ⟨x1, x2, x3, hgeb, hap⟩ := copy_start (k := k) (t := t) (l := l) HB7.out HZ7.out hge9 HN7.out
        have HXB := Lib.hid x1
        have HXN := Lib.hid x2
        have H0 := Lib.hid x3
        have hone : (#[.int .i64 k, .string t, .slice no' ns.length nc', .slice none 0 0] : Array Value).all (·.oneCell') = true := by simp [Value.oneCell']
        clear x1 x2 x3
        refine wpAnyH_ready (rs := [10]) (by kernel_rfl) (by simp) ?_
        refine (AllReadyH.cons rfl (fun K hK => ?_) AllReadyH.nil)
        refine wp_store_row 28 _ _ rfl ((X.alloc (.cells #[] 9)).heap.size) #[.int .i64 k, .string t, .slice no' ns.length nc', .slice none 0 0] (by go_simp) rfl 28 Z4 HZ7.out info28 rfl hone ?_
        refine hK.out _ _ HXB.out (fun hHeld => ?_)
        clear hK K
        try simp only [List.getElem_toArray, List.getElem_cons_succ, List.getElem_cons_zero, Act.put, List.setIfInBounds_toArray, List.set_cons_zero, List.set_cons_succ]
        refine wpAnyH_done (by kernel_rfl) ?_ _
        refine NoPanic.normal ?_
        clear hHeld
        generalize w9.setRow (X.alloc (.cells #[] 9)).heap.size #[.int .i64 k, .string t, .slice no' ns.length nc', .slice none 0 0] = W0 at HXB HXN H0 hgeb ⊢
        have eX : (X.alloc (.cells #[] 9)).heap.size = X.heap.size + 1 := by simp
        rw [eX] at H0 hgeb hge9 hap
        clear eX
        generalize X.heap.size + 1 = ge at H0 hgeb hge9 hap ⊢
        have hgse : gs ≠ ge := by omega
        have HAP := Lib.hid hap
        have hW01 : W1.heap.size ≤ W0.heap.size := HXB.out.size
        clear hap
        go_wp2_with fail
        go_loopw [4] (fun iv wr => LC W0 ge k t (.slice no' ns.length nc') l iv wr) (fun iv _ => l.length - (intOf iv).toNat)
        case atStart => exact H0.out
        case round =>
          clear H0
          obtain ⟨i, av, hi, rfl, hown, heb, hbut⟩ := hrel
          have hs0 := hbut.size
          have hlt : (l.take i).length = i := by rw [List.length_take]; omega
          obtain ⟨ao5, ac5, rfl⟩ : ∃ ao5 ac5, av = .slice ao5 i ac5 := by
            obtain ⟨xs, ho, _⟩ := hown
            rw [hlt] at ho
            exact own_form ho
          have HBr : Hid (Below W1.heap.size W1 wr) := HXB.out.trans (hbut.toBelow hW01 hge9)
          have c3 := (EB.cell _ _ _ _ _ _ heb).2.2.2
          have HEB := Lib.hid heb
          have HOW := Lib.hid hown
          have HBT := Lib.hid hbut
          have hi1 : i + 1 ≤ 1000000000 := by omega
          obtain ⟨-, -, -, cs3⟩ := HCS.out wr HBr.out
          clear heb hown hbut hlt
          by_cases hil : i < l.length
          · have q3 : decide ((i : Int) < (l.length : Int)) = true := decide_eq_true (by omega)
            obtain ⟨g4, o4, k', t', mv', lv', rfl, -, -, hati, e0, e1, e2, e3, o1', o2'⟩ := HL.out.get i hil
            have HD : Hid (∀ w', But W0.heap.size ge wr w' → w'.cell? ⟨g4, o4 + i * 4, none⟩ = some (.int .i64 k') ∧ w'.cell? ⟨g4, o4 + i * 4 + 1, none⟩ = some (.string t') ∧ w'.cell? ⟨g4, o4 + i * 4 + 2, none⟩ = some mv' ∧ w'.cell? ⟨g4, o4 + i * 4 + 3, none⟩ = some lv') := fun w' hw' => ⟨cell_below (HBr.out.trans (hw'.toBelow hW01 hge9)) e0, cell_below (HBr.out.trans (hw'.toBelow hW01 hge9)) e1, cell_below (HBr.out.trans (hw'.toBelow hW01 hge9)) e2, cell_below (HBr.out.trans (hw'.toBelow hW01 hge9)) e3⟩
            have HSC : Hid (∀ w', But W0.heap.size ge wr w' → w'.cell? ⟨gs, 3, none⟩ = some (.slice (some ⟨g4, o4, none⟩) l.length cap)) := fun w' hw' => (HCS.out w' (HBr.out.trans (hw'.toBelow hW01 hge9))).2.2.2
            have hsj := esize_get l i hil
            have HP := Lib.hid (IH.out l[i] (by omega) (HFL.out _ (List.getElem_mem hil)) S #[.int .i64 k', .string t', mv', lv'] wr.drew (Et.At.keeps (Keeps.of_below (HBr.out.trans (((Below.refl wr.heap.size wr).drew).mono HBr.out.size))) _ _ hati))
            have HS0 : Hid (But W0.heap.size ge wr wr.drew) := (But.refl _ _ _).drew
            clear e0 e1 e2 e3 hati hsj
            go_upto_region 5 with fail
            refine wp_region_noPanic ?_
            refine wp_region_held_drew (S := But W0.heap.size ge wr) (by kernel_rfl) ((But.refl _ _ _).drew) (fun hHeld => ?_)
            refine wpAnyH_take (i := 0) (v := Value.pointer (some ⟨ge, 3, none⟩)) rfl (by kernel_rfl) (by kernel_rfl) (by kernel_rfl) (fun _ _ _ h => h) (Or.inl ⟨rfl, fun w' hw' => ?_⟩) hHeld ?_
            · go_simp
            simp only [List.getElem_toArray, List.getElem_cons_succ, List.getElem_cons_zero, Act.put, List.setIfInBounds_toArray, List.set_cons_zero, List.set_cons_succ]
            refine wpAnyH_take (i := 2) (v := Value.pointer (some ⟨gs, 3, none⟩)) rfl (by kernel_rfl) (by kernel_rfl) (by kernel_rfl) (fun _ _ _ h => h) (Or.inl ⟨rfl, fun w' hw' => ?_⟩) hHeld ?_
            · go_simp
            simp only [List.getElem_toArray, List.getElem_cons_succ, List.getElem_cons_zero, Act.put, List.setIfInBounds_toArray, List.set_cons_zero, List.set_cons_succ]
            refine wpAnyH_take (i := 3) (v := Value.slice (some ⟨g4, o4, none⟩) l.length cap) rfl (by kernel_rfl) (by kernel_rfl) (by kernel_rfl) (fun _ _ _ h => h) (Or.inl ⟨rfl, fun w' hw' => ?_⟩) hHeld ?_
            · have q9 := HSC.out w' hw'; go_simp
            simp only [List.getElem_toArray, List.getElem_cons_succ, List.getElem_cons_zero, Act.put, List.setIfInBounds_toArray, List.set_cons_zero, List.set_cons_succ]
            refine wpAnyH_take (i := 4) (v := Value.int .i64 (i : Int)) rfl (by kernel_rfl) (by kernel_rfl) (by kernel_rfl) (fun _ _ _ h => h) (Or.inl ⟨rfl, fun w' hw' => ?_⟩) hHeld ?_
            · go_simp
            simp only [List.getElem_toArray, List.getElem_cons_succ, List.getElem_cons_zero, Act.put, List.setIfInBounds_toArray, List.set_cons_zero, List.set_cons_succ]
            refine wpAnyH_take (i := 5) (v := Value.pointer (some ⟨g4, o4 + i * 4, none⟩)) rfl (by kernel_rfl) (by kernel_rfl) (by kernel_rfl) (fun _ _ _ h => h) (Or.inl ⟨rfl, fun w' hw' => ?_⟩) hHeld ?_
            · go_simp
            simp only [List.getElem_toArray, List.getElem_cons_succ, List.getElem_cons_zero, Act.put, List.setIfInBounds_toArray, List.set_cons_zero, List.set_cons_succ]
            refine wpAnyH_take (i := 6) (v := Value.agg #[.int .i64 k', .string t', mv', lv']) rfl (by kernel_rfl) (by kernel_rfl) (by kernel_rfl) (fun _ _ _ h => h) (Or.inl ⟨rfl, fun w' hw' => ?_⟩) hHeld ?_
            · obtain ⟨d0, d1, d2, d3⟩ := HD.out w' hw'; go_simp
            simp only [List.getElem_toArray, List.getElem_cons_succ, List.getElem_cons_zero, Act.put, List.setIfInBounds_toArray, List.set_cons_zero, List.set_cons_succ]
            refine wpAnyH_ready (rs := [1, 7]) (by kernel_rfl) (by simp) ?_
            refine (AllReadyH.cons rfl (fun K hK => ?_) (AllReadyH.cons rfl (fun K hK => ?_) AllReadyH.nil))
            · skip
              go_simp
              refine hK.out _ _ HS0.out (fun hHeld => ?_)
              clear hK K
              try simp only [List.getElem_toArray, List.getElem_cons_succ, List.getElem_cons_zero, Act.put, List.setIfInBounds_toArray, List.set_cons_zero, List.set_cons_succ]
              refine wpAnyH_ready (rs := [7]) (by kernel_rfl) (by simp) ?_
              refine (AllReadyH.cons rfl (fun K hK => ?_) AllReadyH.nil)
              go_simp
              refine HP.out.mono ?_
              intro e w7 hret
              obtain ⟨k5, t5, nv5, av5, rfl, hat, hb7⟩ := hret.at
              have hb7 : Below wr.heap.size wr w7 := ((Below.refl wr.heap.size wr).drew).trans hb7
              have o1 : nv5.oneCell' = true := (EAt_one hat).1
              have o2 : av5.oneCell' = true := (EAt_one hat).2
              obtain ⟨S7, c7, S8, c8, xs, hx8, hB8, hc9⟩ := LC.step hil hl5 HOW.out HEB.out HBT.out hgeb hat rfl hb7
              have HS7 := Lib.hid S7
              have HS8 := Lib.hid S8
              have HX := Lib.hid hx8
              have HB8 := Lib.hid hB8
              have HC := Lib.hid hc9
              have HONE : Hid (nv5.oneCell' = true ∧ av5.oneCell' = true) := ⟨o1, o2⟩
              clear hat hb7 S7 S8 hx8 hB8 hc9 o1 o2 hret
              refine hK.out _ _ HS7.out (fun hHeld => ?_)
              clear hK K
              try simp only [List.getElem_toArray, List.getElem_cons_succ, List.getElem_cons_zero, Act.put, List.setIfInBounds_toArray, List.set_cons_zero, List.set_cons_succ]
              refine wpAnyH_ready (rs := [8]) (by kernel_rfl) (by simp) ?_
              refine (AllReadyH.cons rfl (fun K hK => ?_) AllReadyH.nil)
              go_simp
              refine hK.out _ _ HS8.out (fun hHeld => ?_)
              clear hK K
              try simp only [List.getElem_toArray, List.getElem_cons_succ, List.getElem_cons_zero, Act.put, List.setIfInBounds_toArray, List.set_cons_zero, List.set_cons_succ]
              refine wpAnyH_ready (rs := [9]) (by kernel_rfl) (by simp) ?_
              refine (AllReadyH.cons rfl (fun K hK => ?_) AllReadyH.nil)
              refine wp_app (Operand.tmp 22) (Operand.tmp 29) rfl W0.heap.size (.slice ao5 i ac5) i xs rfl HX.out _ 1 rfl #[.int .i64 k5, .string t5, nv5, av5].toList rfl (row_cells _ _) (one_cells HONE.out) hi1 HB8.out ?_
              intro v' w9 hown9 hg9 hv9
              obtain ⟨ao', ac', rfl⟩ := own_form hown9
              obtain ⟨S9, e9, f9, S10, HREL⟩ := HC.out _ _ _ hown9 hg9 hv9
              have HS9 := Lib.hid S9
              have HS10 := Lib.hid S10
              have HR9 := Lib.hid HREL
              clear hown9 hg9 hv9 S9 S10 HREL
              refine hK.out _ _ HS9.out (fun hHeld => ?_)
              clear hK K
              try simp only [List.getElem_toArray, List.getElem_cons_succ, List.getElem_cons_zero, Act.put, List.setIfInBounds_toArray, List.set_cons_zero, List.set_cons_succ]
              refine wpAnyH_take (i := 10) (v := Value.pointer (some ⟨ge, 3, none⟩)) rfl (by kernel_rfl) (by kernel_rfl) (by kernel_rfl) (fun _ _ _ h => h) (Or.inl ⟨rfl, fun w' hw' => ?_⟩) hHeld ?_
              · go_simp
              simp only [List.getElem_toArray, List.getElem_cons_succ, List.getElem_cons_zero, Act.put, List.setIfInBounds_toArray, List.set_cons_zero, List.set_cons_succ]
              refine wpAnyH_ready (rs := [11]) (by kernel_rfl) (by simp) ?_
              refine (AllReadyH.cons rfl (fun K hK => ?_) AllReadyH.nil)
              go_simp
              refine hK.out _ _ HS10.out (fun hHeld => ?_)
              clear hK K
              try simp only [List.getElem_toArray, List.getElem_cons_succ, List.getElem_cons_zero, Act.put, List.setIfInBounds_toArray, List.set_cons_zero, List.set_cons_succ]
              refine wpAnyH_done (by kernel_rfl) ?_ _
              refine NoPanic.normal ?_
              clear hHeld
              go_wp2_with fail
              go_roundw
              case rel => exact HR9.out
              case measure => simp [intOf]; omega
            · skip
              go_simp
              refine HP.out.mono ?_
              intro e w7 hret
              obtain ⟨k5, t5, nv5, av5, rfl, hat, hb7⟩ := hret.at
              have hb7 : Below wr.heap.size wr w7 := ((Below.refl wr.heap.size wr).drew).trans hb7
              have o1 : nv5.oneCell' = true := (EAt_one hat).1
              have o2 : av5.oneCell' = true := (EAt_one hat).2
              obtain ⟨S7, c7, S8, c8, xs, hx8, hB8, hc9⟩ := LC.step hil hl5 HOW.out HEB.out HBT.out hgeb hat rfl hb7
              have HS7 := Lib.hid S7
              have HS8 := Lib.hid S8
              have HX := Lib.hid hx8
              have HB8 := Lib.hid hB8
              have HC := Lib.hid hc9
              have HONE : Hid (nv5.oneCell' = true ∧ av5.oneCell' = true) := ⟨o1, o2⟩
              clear hat hb7 S7 S8 hx8 hB8 hc9 o1 o2 hret
              refine hK.out _ _ HS7.out (fun hHeld => ?_)
              clear hK K
              try simp only [List.getElem_toArray, List.getElem_cons_succ, List.getElem_cons_zero, Act.put, List.setIfInBounds_toArray, List.set_cons_zero, List.set_cons_succ]
              refine wpAnyH_ready (rs := [1, 8]) (by kernel_rfl) (by simp) ?_
              refine (AllReadyH.cons rfl (fun K hK => ?_) (AllReadyH.cons rfl (fun K hK => ?_) AllReadyH.nil))
              · skip
                go_simp
                refine hK.out _ _ HS7.out (fun hHeld => ?_)
                clear hK K
                try simp only [List.getElem_toArray, List.getElem_cons_succ, List.getElem_cons_zero, Act.put, List.setIfInBounds_toArray, List.set_cons_zero, List.set_cons_succ]
                refine wpAnyH_ready (rs := [8]) (by kernel_rfl) (by simp) ?_
                refine (AllReadyH.cons rfl (fun K hK => ?_) AllReadyH.nil)
                go_simp
                refine hK.out _ _ HS8.out (fun hHeld => ?_)
                clear hK K
                try simp only [List.getElem_toArray, List.getElem_cons_succ, List.getElem_cons_zero, Act.put, List.setIfInBounds_toArray, List.set_cons_zero, List.set_cons_succ]
                refine wpAnyH_ready (rs := [9]) (by kernel_rfl) (by simp) ?_
                refine (AllReadyH.cons rfl (fun K hK => ?_) AllReadyH.nil)
                refine wp_app (Operand.tmp 22) (Operand.tmp 29) rfl W0.heap.size (.slice ao5 i ac5) i xs rfl HX.out _ 1 rfl #[.int .i64 k5, .string t5, nv5, av5].toList rfl (row_cells _ _) (one_cells HONE.out) hi1 HB8.out ?_
                intro v' w9 hown9 hg9 hv9
                obtain ⟨ao', ac', rfl⟩ := own_form hown9
                obtain ⟨S9, e9, f9, S10, HREL⟩ := HC.out _ _ _ hown9 hg9 hv9
                have HS9 := Lib.hid S9
                have HS10 := Lib.hid S10
                have HR9 := Lib.hid HREL
                clear hown9 hg9 hv9 S9 S10 HREL
                refine hK.out _ _ HS9.out (fun hHeld => ?_)
                clear hK K
                try simp only [List.getElem_toArray, List.getElem_cons_succ, List.getElem_cons_zero, Act.put, List.setIfInBounds_toArray, List.set_cons_zero, List.set_cons_succ]
                refine wpAnyH_take (i := 10) (v := Value.pointer (some ⟨ge, 3, none⟩)) rfl (by kernel_rfl) (by kernel_rfl) (by kernel_rfl) (fun _ _ _ h => h) (Or.inl ⟨rfl, fun w' hw' => ?_⟩) hHeld ?_
                · go_simp
                simp only [List.getElem_toArray, List.getElem_cons_succ, List.getElem_cons_zero, Act.put, List.setIfInBounds_toArray, List.set_cons_zero, List.set_cons_succ]
                refine wpAnyH_ready (rs := [11]) (by kernel_rfl) (by simp) ?_
                refine (AllReadyH.cons rfl (fun K hK => ?_) AllReadyH.nil)
                go_simp
                refine hK.out _ _ HS10.out (fun hHeld => ?_)
                clear hK K
                try simp only [List.getElem_toArray, List.getElem_cons_succ, List.getElem_cons_zero, Act.put, List.setIfInBounds_toArray, List.set_cons_zero, List.set_cons_succ]
                refine wpAnyH_done (by kernel_rfl) ?_ _
                refine NoPanic.normal ?_
                clear hHeld
                go_wp2_with fail
                go_roundw
                case rel => exact HR9.out
                case measure => simp [intOf]; omega
              · skip
                go_simp
                refine hK.out _ _ HS8.out (fun hHeld => ?_)
                clear hK K
                try simp only [List.getElem_toArray, List.getElem_cons_succ, List.getElem_cons_zero, Act.put, List.setIfInBounds_toArray, List.set_cons_zero, List.set_cons_succ]
                refine wpAnyH_ready (rs := [1]) (by kernel_rfl) (by simp) ?_
                refine (AllReadyH.cons rfl (fun K hK => ?_) AllReadyH.nil)
                go_simp
                refine hK.out _ _ HS8.out (fun hHeld => ?_)
                clear hK K
                try simp only [List.getElem_toArray, List.getElem_cons_succ, List.getElem_cons_zero, Act.put, List.setIfInBounds_toArray, List.set_cons_zero, List.set_cons_succ]
                refine wpAnyH_ready (rs := [9]) (by kernel_rfl) (by simp) ?_
                refine (AllReadyH.cons rfl (fun K hK => ?_) AllReadyH.nil)
                refine wp_app (Operand.tmp 22) (Operand.tmp 29) rfl W0.heap.size (.slice ao5 i ac5) i xs rfl HX.out _ 1 rfl #[.int .i64 k5, .string t5, nv5, av5].toList rfl (row_cells _ _) (one_cells HONE.out) hi1 HB8.out ?_
                intro v' w9 hown9 hg9 hv9
                obtain ⟨ao', ac', rfl⟩ := own_form hown9
                obtain ⟨S9, e9, f9, S10, HREL⟩ := HC.out _ _ _ hown9 hg9 hv9
                have HS9 := Lib.hid S9
                have HS10 := Lib.hid S10
                have HR9 := Lib.hid HREL
                clear hown9 hg9 hv9 S9 S10 HREL
                refine hK.out _ _ HS9.out (fun hHeld => ?_)
                clear hK K
                try simp only [List.getElem_toArray, List.getElem_cons_succ, List.getElem_cons_zero, Act.put, List.setIfInBounds_toArray, List.set_cons_zero, List.set_cons_succ]
                refine wpAnyH_take (i := 10) (v := Value.pointer (some ⟨ge, 3, none⟩)) rfl (by kernel_rfl) (by kernel_rfl) (by kernel_rfl) (fun _ _ _ h => h) (Or.inl ⟨rfl, fun w' hw' => ?_⟩) hHeld ?_
                · go_simp
                simp only [List.getElem_toArray, List.getElem_cons_succ, List.getElem_cons_zero, Act.put, List.setIfInBounds_toArray, List.set_cons_zero, List.set_cons_succ]
                refine wpAnyH_ready (rs := [11]) (by kernel_rfl) (by simp) ?_
                refine (AllReadyH.cons rfl (fun K hK => ?_) AllReadyH.nil)
                go_simp
                refine hK.out _ _ HS10.out (fun hHeld => ?_)
                clear hK K
                try simp only [List.getElem_toArray, List.getElem_cons_succ, List.getElem_cons_zero, Act.put, List.setIfInBounds_toArray, List.set_cons_zero, List.set_cons_succ]
                refine wpAnyH_done (by kernel_rfl) ?_ _
                refine NoPanic.normal ?_
                clear hHeld
                go_wp2_with fail
                go_roundw
                case rel => exact HR9.out
                case measure => simp [intOf]; omega
          · have q3 : decide ((i : Int) < (l.length : Int)) = false := decide_eq_false (by omega)
            obtain rfl : i = l.length := by omega
            have hz : wr.heap[gr]? = some (.cells Z4 28 (0, 0)) := row_below HBr.out HZ.out
            have hww := HB1.out.size
            have hown9 := HOW.out
            rw [List.take_length] at hown9
            have hgrw : w.heap.size ≤ gr := by have := HGR.out; have := HGS.out; omega
            have HF := Lib.hid (copy_end (k := k) (t := t) HB1.out HXB.out HBT.out HXN.out HAP.out hgrw hgr1 hge9 hown9)
            have hone : (#[.int .i64 k, .string t, .slice no' ns.length nc', .slice ao5 l.length ac5] : Array Value).all (·.oneCell') = true := by simp [Value.oneCell']
            have HZr := Lib.hid hz
            clear hown9 hz hww
            go_wp2_with (first | (refine wpList_load_row rfl 28 _ rfl ge rfl 28 #[.int .i64 k, .string t, .slice no' ns.length nc', .slice ao5 l.length ac5] (0, 0) _ HEB.out Try.underlying28 rfl info28 ?_) | (refine wpList_store_row rfl 28 _ _ rfl gr #[.int .i64 k, .string t, .slice no' ns.length nc', .slice ao5 l.length ac5] rfl rfl 28 Z4 HZr.out info28 rfl hone ?_))
            refine bodyPost_ret (results_cell_row rfl _ _ gr 28 #[.int .i64 k, .string t, .slice no' ns.length nc', .slice ao5 l.length ac5] (0, 0) _ rfl (setRow_heap wr _ _ _ 28 _ HZr.out) Try.underlying28 rfl info28) rfl ?_
            exact HF.out
    · skip
      have HB9 : Hid (Below W1.heap.size W1 (X.alloc (.cells Z4 28))) := HX.out.alloc HX.out.size _
      have HZ9 : Hid ((X.alloc (.cells Z4 28)).heap[X.heap.size]? = some (.cells Z4 28 (0, 0))) := alloc_at X _
      have hge9 : W1.heap.size ≤ X.heap.size := HX.out.size
      go_simp
      refine hK.out _ _ HB9.out (fun hHeld => ?_)
      clear hK K
      try simp only [List.getElem_toArray, List.getElem_cons_succ, List.getElem_cons_zero, Act.put, List.setIfInBounds_toArray, List.set_cons_zero, List.set_cons_succ]
      refine wpAnyH_ready (rs := [4]) (by kernel_rfl) (by simp) ?_
      refine (AllReadyH.cons rfl (fun K hK => ?_) AllReadyH.nil)
      have HB4 : Hid (Below W1.heap.size W1 ((X.alloc (.cells Z4 28)).alloc (.cells #[] 9))) := HB9.out.alloc HB9.out.size _
      have HL4 := Lib.hid (OwnN.lit W1.heap.size (X.alloc (.cells Z4 28)) HB9.out.size)
      have HM4 := Lib.hid (HM.out.keeps (Keeps.of_below HB4.out))
      have hB4 : W1.heap.size ≤ ((X.alloc (.cells Z4 28)).alloc (.cells #[] 9)).heap.size := HB4.out.size
      go_simp
      refine hK.out _ _ HB4.out (fun hHeld => ?_)
      clear hK K
      try simp only [List.getElem_toArray, List.getElem_cons_succ, List.getElem_cons_zero, Act.put, List.setIfInBounds_toArray, List.set_cons_zero, List.set_cons_succ]
      refine wpAnyH_ready (rs := [7]) (by kernel_rfl) (by simp) ?_
      refine (AllReadyH.cons rfl (fun K hK => ?_) AllReadyH.nil)
      refine wp_appNs (Operand.tmp 9) (Operand.tmp 11) rfl W1.heap.size ((X.alloc (.cells Z4 28)).heap.size) 0 (by go_simp) HL4.out _ ns rfl HM4.out (by omega) hB4 ?_
      intro v' w9 hown9 hg9
      obtain ⟨no', nc', rfl⟩ := own_form hown9
      have HB7 : Hid (Below W1.heap.size W1 w9) := HB4.out.grown hg9 hB4 (fun x hx => by injection hx with hx; have := HX.out.size; have : (X.alloc (.cells Z4 28)).heap.size = X.heap.size + 1 := (by simp); omega)
      have HN7 := Lib.hid hown9
      have HZ7 : Hid (w9.heap[X.heap.size]? = some (.cells Z4 28 (0, 0))) := (hg9.block _ (by simp; omega) (fun e => by injection e with e; simp at e)).trans ((Lib.alloc_old _ _ _ (by simp)).trans HZ9.out)
      clear hown9 hg9
      refine hK.out _ _ HB7.out (fun hHeld => ?_)
      clear hK K
      try simp only [List.getElem_toArray, List.getElem_cons_succ, List.getElem_cons_zero, Act.put, List.setIfInBounds_toArray, List.set_cons_zero, List.set_cons_succ]
      refine wpAnyH_take (i := 8) (v := Value.agg #[.int .i64 k, .string t, .slice no' ns.length nc', .slice none 0 0]) rfl (by kernel_rfl) (by kernel_rfl) (by kernel_rfl) (fun _ _ _ h => h) (Or.inl ⟨rfl, fun w' hw' => ?_⟩) hHeld ?_
      · go_simp
      simp only [List.getElem_toArray, List.getElem_cons_succ, List.getElem_cons_zero, Act.put, List.setIfInBounds_toArray, List.set_cons_zero, List.set_cons_succ]
      obtain ⟨x1, x2, x3, hgeb, hap⟩ := copy_start (k := k) (t := t) (l := l) HB7.out HZ7.out hge9 HN7.out
      have HXB := Lib.hid x1
      have HXN := Lib.hid x2
      have H0 := Lib.hid x3
      have hone : (#[.int .i64 k, .string t, .slice no' ns.length nc', .slice none 0 0] : Array Value).all (·.oneCell') = true := by simp [Value.oneCell']
      clear x1 x2 x3
      refine wpAnyH_ready (rs := [10]) (by kernel_rfl) (by simp) ?_
      refine (AllReadyH.cons rfl (fun K hK => ?_) AllReadyH.nil)
      refine wp_store_row 28 _ _ rfl (X.heap.size) #[.int .i64 k, .string t, .slice no' ns.length nc', .slice none 0 0] (by go_simp) rfl 28 Z4 HZ7.out info28 rfl hone ?_
      refine hK.out _ _ HXB.out (fun hHeld => ?_)
      clear hK K
      try simp only [List.getElem_toArray, List.getElem_cons_succ, List.getElem_cons_zero, Act.put, List.setIfInBounds_toArray, List.set_cons_zero, List.set_cons_succ]
      refine wpAnyH_done (by kernel_rfl) ?_ _
      refine NoPanic.normal ?_
      clear hHeld
      generalize w9.setRow X.heap.size #[.int .i64 k, .string t, .slice no' ns.length nc', .slice none 0 0] = W0 at HXB HXN H0 hgeb ⊢
      generalize X.heap.size = ge at H0 hgeb hge9 hap ⊢
      have hgse : gs ≠ ge := by omega
      have HAP := Lib.hid hap
      have hW01 : W1.heap.size ≤ W0.heap.size := HXB.out.size
      clear hap
      go_wp2_with fail
      go_loopw [4] (fun iv wr => LC W0 ge k t (.slice no' ns.length nc') l iv wr) (fun iv _ => l.length - (intOf iv).toNat)
      case atStart => exact H0.out
      case round =>
        clear H0
        obtain ⟨i, av, hi, rfl, hown, heb, hbut⟩ := hrel
        have hs0 := hbut.size
        have hlt : (l.take i).length = i := by rw [List.length_take]; omega
        obtain ⟨ao5, ac5, rfl⟩ : ∃ ao5 ac5, av = .slice ao5 i ac5 := by
          obtain ⟨xs, ho, _⟩ := hown
          rw [hlt] at ho
          exact own_form ho
        have HBr : Hid (Below W1.heap.size W1 wr) := HXB.out.trans (hbut.toBelow hW01 hge9)
        have c3 := (EB.cell _ _ _ _ _ _ heb).2.2.2
        have HEB := Lib.hid heb
        have HOW := Lib.hid hown
        have HBT := Lib.hid hbut
        have hi1 : i + 1 ≤ 1000000000 := by omega
        obtain ⟨-, -, -, cs3⟩ := HCS.out wr HBr.out
        clear heb hown hbut hlt
        by_cases hil : i < l.length
        · have q3 : decide ((i : Int) < (l.length : Int)) = true := decide_eq_true (by omega)
          obtain ⟨g4, o4, k', t', mv', lv', rfl, -, -, hati, e0, e1, e2, e3, o1', o2'⟩ := HL.out.get i hil
          have HD : Hid (∀ w', But W0.heap.size ge wr w' → w'.cell? ⟨g4, o4 + i * 4, none⟩ = some (.int .i64 k') ∧ w'.cell? ⟨g4, o4 + i * 4 + 1, none⟩ = some (.string t') ∧ w'.cell? ⟨g4, o4 + i * 4 + 2, none⟩ = some mv' ∧ w'.cell? ⟨g4, o4 + i * 4 + 3, none⟩ = some lv') := fun w' hw' => ⟨cell_below (HBr.out.trans (hw'.toBelow hW01 hge9)) e0, cell_below (HBr.out.trans (hw'.toBelow hW01 hge9)) e1, cell_below (HBr.out.trans (hw'.toBelow hW01 hge9)) e2, cell_below (HBr.out.trans (hw'.toBelow hW01 hge9)) e3⟩
          have HSC : Hid (∀ w', But W0.heap.size ge wr w' → w'.cell? ⟨gs, 3, none⟩ = some (.slice (some ⟨g4, o4, none⟩) l.length cap)) := fun w' hw' => (HCS.out w' (HBr.out.trans (hw'.toBelow hW01 hge9))).2.2.2
          have hsj := esize_get l i hil
          have HP := Lib.hid (IH.out l[i] (by omega) (HFL.out _ (List.getElem_mem hil)) S #[.int .i64 k', .string t', mv', lv'] wr.drew (Et.At.keeps (Keeps.of_below (HBr.out.trans (((Below.refl wr.heap.size wr).drew).mono HBr.out.size))) _ _ hati))
          have HS0 : Hid (But W0.heap.size ge wr wr.drew) := (But.refl _ _ _).drew
          clear e0 e1 e2 e3 hati hsj
          go_upto_region 5 with fail
          refine wp_region_noPanic ?_
          refine wp_region_held_drew (S := But W0.heap.size ge wr) (by kernel_rfl) ((But.refl _ _ _).drew) (fun hHeld => ?_)
          refine wpAnyH_take (i := 0) (v := Value.pointer (some ⟨ge, 3, none⟩)) rfl (by kernel_rfl) (by kernel_rfl) (by kernel_rfl) (fun _ _ _ h => h) (Or.inl ⟨rfl, fun w' hw' => ?_⟩) hHeld ?_
          · go_simp
          simp only [List.getElem_toArray, List.getElem_cons_succ, List.getElem_cons_zero, Act.put, List.setIfInBounds_toArray, List.set_cons_zero, List.set_cons_succ]
          refine wpAnyH_take (i := 2) (v := Value.pointer (some ⟨gs, 3, none⟩)) rfl (by kernel_rfl) (by kernel_rfl) (by kernel_rfl) (fun _ _ _ h => h) (Or.inl ⟨rfl, fun w' hw' => ?_⟩) hHeld ?_
          · go_simp
          simp only [List.getElem_toArray, List.getElem_cons_succ, List.getElem_cons_zero, Act.put, List.setIfInBounds_toArray, List.set_cons_zero, List.set_cons_succ]
          refine wpAnyH_take (i := 3) (v := Value.slice (some ⟨g4, o4, none⟩) l.length cap) rfl (by kernel_rfl) (by kernel_rfl) (by kernel_rfl) (fun _ _ _ h => h) (Or.inl ⟨rfl, fun w' hw' => ?_⟩) hHeld ?_
          · have q9 := HSC.out w' hw'; go_simp
          simp only [List.getElem_toArray, List.getElem_cons_succ, List.getElem_cons_zero, Act.put, List.setIfInBounds_toArray, List.set_cons_zero, List.set_cons_succ]
          refine wpAnyH_take (i := 4) (v := Value.int .i64 (i : Int)) rfl (by kernel_rfl) (by kernel_rfl) (by kernel_rfl) (fun _ _ _ h => h) (Or.inl ⟨rfl, fun w' hw' => ?_⟩) hHeld ?_
          · go_simp
          simp only [List.getElem_toArray, List.getElem_cons_succ, List.getElem_cons_zero, Act.put, List.setIfInBounds_toArray, List.set_cons_zero, List.set_cons_succ]
          refine wpAnyH_take (i := 5) (v := Value.pointer (some ⟨g4, o4 + i * 4, none⟩)) rfl (by kernel_rfl) (by kernel_rfl) (by kernel_rfl) (fun _ _ _ h => h) (Or.inl ⟨rfl, fun w' hw' => ?_⟩) hHeld ?_
          · go_simp
          simp only [List.getElem_toArray, List.getElem_cons_succ, List.getElem_cons_zero, Act.put, List.setIfInBounds_toArray, List.set_cons_zero, List.set_cons_succ]
          refine wpAnyH_take (i := 6) (v := Value.agg #[.int .i64 k', .string t', mv', lv']) rfl (by kernel_rfl) (by kernel_rfl) (by kernel_rfl) (fun _ _ _ h => h) (Or.inl ⟨rfl, fun w' hw' => ?_⟩) hHeld ?_
          · obtain ⟨d0, d1, d2, d3⟩ := HD.out w' hw'; go_simp
          simp only [List.getElem_toArray, List.getElem_cons_succ, List.getElem_cons_zero, Act.put, List.setIfInBounds_toArray, List.set_cons_zero, List.set_cons_succ]
          refine wpAnyH_ready (rs := [1, 7]) (by kernel_rfl) (by simp) ?_
          refine (AllReadyH.cons rfl (fun K hK => ?_) (AllReadyH.cons rfl (fun K hK => ?_) AllReadyH.nil))
          · skip
            go_simp
            refine hK.out _ _ HS0.out (fun hHeld => ?_)
            clear hK K
            try simp only [List.getElem_toArray, List.getElem_cons_succ, List.getElem_cons_zero, Act.put, List.setIfInBounds_toArray, List.set_cons_zero, List.set_cons_succ]
            refine wpAnyH_ready (rs := [7]) (by kernel_rfl) (by simp) ?_
            refine (AllReadyH.cons rfl (fun K hK => ?_) AllReadyH.nil)
            go_simp
            refine HP.out.mono ?_
            intro e w7 hret
            obtain ⟨k5, t5, nv5, av5, rfl, hat, hb7⟩ := hret.at
            have hb7 : Below wr.heap.size wr w7 := ((Below.refl wr.heap.size wr).drew).trans hb7
            have o1 : nv5.oneCell' = true := (EAt_one hat).1
            have o2 : av5.oneCell' = true := (EAt_one hat).2
            obtain ⟨S7, c7, S8, c8, xs, hx8, hB8, hc9⟩ := LC.step hil hl5 HOW.out HEB.out HBT.out hgeb hat rfl hb7
            have HS7 := Lib.hid S7
            have HS8 := Lib.hid S8
            have HX := Lib.hid hx8
            have HB8 := Lib.hid hB8
            have HC := Lib.hid hc9
            have HONE : Hid (nv5.oneCell' = true ∧ av5.oneCell' = true) := ⟨o1, o2⟩
            clear hat hb7 S7 S8 hx8 hB8 hc9 o1 o2 hret
            refine hK.out _ _ HS7.out (fun hHeld => ?_)
            clear hK K
            try simp only [List.getElem_toArray, List.getElem_cons_succ, List.getElem_cons_zero, Act.put, List.setIfInBounds_toArray, List.set_cons_zero, List.set_cons_succ]
            refine wpAnyH_ready (rs := [8]) (by kernel_rfl) (by simp) ?_
            refine (AllReadyH.cons rfl (fun K hK => ?_) AllReadyH.nil)
            go_simp
            refine hK.out _ _ HS8.out (fun hHeld => ?_)
            clear hK K
            try simp only [List.getElem_toArray, List.getElem_cons_succ, List.getElem_cons_zero, Act.put, List.setIfInBounds_toArray, List.set_cons_zero, List.set_cons_succ]
            refine wpAnyH_ready (rs := [9]) (by kernel_rfl) (by simp) ?_
            refine (AllReadyH.cons rfl (fun K hK => ?_) AllReadyH.nil)
            refine wp_app (Operand.tmp 22) (Operand.tmp 29) rfl W0.heap.size (.slice ao5 i ac5) i xs rfl HX.out _ 1 rfl #[.int .i64 k5, .string t5, nv5, av5].toList rfl (row_cells _ _) (one_cells HONE.out) hi1 HB8.out ?_
            intro v' w9 hown9 hg9 hv9
            obtain ⟨ao', ac', rfl⟩ := own_form hown9
            obtain ⟨S9, e9, f9, S10, HREL⟩ := HC.out _ _ _ hown9 hg9 hv9
            have HS9 := Lib.hid S9
            have HS10 := Lib.hid S10
            have HR9 := Lib.hid HREL
            clear hown9 hg9 hv9 S9 S10 HREL
            refine hK.out _ _ HS9.out (fun hHeld => ?_)
            clear hK K
            try simp only [List.getElem_toArray, List.getElem_cons_succ, List.getElem_cons_zero, Act.put, List.setIfInBounds_toArray, List.set_cons_zero, List.set_cons_succ]
            refine wpAnyH_take (i := 10) (v := Value.pointer (some ⟨ge, 3, none⟩)) rfl (by kernel_rfl) (by kernel_rfl) (by kernel_rfl) (fun _ _ _ h => h) (Or.inl ⟨rfl, fun w' hw' => ?_⟩) hHeld ?_
            · go_simp
            simp only [List.getElem_toArray, List.getElem_cons_succ, List.getElem_cons_zero, Act.put, List.setIfInBounds_toArray, List.set_cons_zero, List.set_cons_succ]
            refine wpAnyH_ready (rs := [11]) (by kernel_rfl) (by simp) ?_
            refine (AllReadyH.cons rfl (fun K hK => ?_) AllReadyH.nil)
            go_simp
            refine hK.out _ _ HS10.out (fun hHeld => ?_)
            clear hK K
            try simp only [List.getElem_toArray, List.getElem_cons_succ, List.getElem_cons_zero, Act.put, List.setIfInBounds_toArray, List.set_cons_zero, List.set_cons_succ]
            refine wpAnyH_done (by kernel_rfl) ?_ _
            refine NoPanic.normal ?_
            clear hHeld
            go_wp2_with fail
            go_roundw
            case rel => exact HR9.out
            case measure => simp [intOf]; omega
          · skip
            go_simp
            refine HP.out.mono ?_
            intro e w7 hret
            obtain ⟨k5, t5, nv5, av5, rfl, hat, hb7⟩ := hret.at
            have hb7 : Below wr.heap.size wr w7 := ((Below.refl wr.heap.size wr).drew).trans hb7
            have o1 : nv5.oneCell' = true := (EAt_one hat).1
            have o2 : av5.oneCell' = true := (EAt_one hat).2
            obtain ⟨S7, c7, S8, c8, xs, hx8, hB8, hc9⟩ := LC.step hil hl5 HOW.out HEB.out HBT.out hgeb hat rfl hb7
            have HS7 := Lib.hid S7
            have HS8 := Lib.hid S8
            have HX := Lib.hid hx8
            have HB8 := Lib.hid hB8
            have HC := Lib.hid hc9
            have HONE : Hid (nv5.oneCell' = true ∧ av5.oneCell' = true) := ⟨o1, o2⟩
            clear hat hb7 S7 S8 hx8 hB8 hc9 o1 o2 hret
            refine hK.out _ _ HS7.out (fun hHeld => ?_)
            clear hK K
            try simp only [List.getElem_toArray, List.getElem_cons_succ, List.getElem_cons_zero, Act.put, List.setIfInBounds_toArray, List.set_cons_zero, List.set_cons_succ]
            refine wpAnyH_ready (rs := [1, 8]) (by kernel_rfl) (by simp) ?_
            refine (AllReadyH.cons rfl (fun K hK => ?_) (AllReadyH.cons rfl (fun K hK => ?_) AllReadyH.nil))
            · skip
              go_simp
              refine hK.out _ _ HS7.out (fun hHeld => ?_)
              clear hK K
              try simp only [List.getElem_toArray, List.getElem_cons_succ, List.getElem_cons_zero, Act.put, List.setIfInBounds_toArray, List.set_cons_zero, List.set_cons_succ]
              refine wpAnyH_ready (rs := [8]) (by kernel_rfl) (by simp) ?_
              refine (AllReadyH.cons rfl (fun K hK => ?_) AllReadyH.nil)
              go_simp
              refine hK.out _ _ HS8.out (fun hHeld => ?_)
              clear hK K
              try simp only [List.getElem_toArray, List.getElem_cons_succ, List.getElem_cons_zero, Act.put, List.setIfInBounds_toArray, List.set_cons_zero, List.set_cons_succ]
              refine wpAnyH_ready (rs := [9]) (by kernel_rfl) (by simp) ?_
              refine (AllReadyH.cons rfl (fun K hK => ?_) AllReadyH.nil)
              refine wp_app (Operand.tmp 22) (Operand.tmp 29) rfl W0.heap.size (.slice ao5 i ac5) i xs rfl HX.out _ 1 rfl #[.int .i64 k5, .string t5, nv5, av5].toList rfl (row_cells _ _) (one_cells HONE.out) hi1 HB8.out ?_
              intro v' w9 hown9 hg9 hv9
              obtain ⟨ao', ac', rfl⟩ := own_form hown9
              obtain ⟨S9, e9, f9, S10, HREL⟩ := HC.out _ _ _ hown9 hg9 hv9
              have HS9 := Lib.hid S9
              have HS10 := Lib.hid S10
              have HR9 := Lib.hid HREL
              clear hown9 hg9 hv9 S9 S10 HREL
              refine hK.out _ _ HS9.out (fun hHeld => ?_)
              clear hK K
              try simp only [List.getElem_toArray, List.getElem_cons_succ, List.getElem_cons_zero, Act.put, List.setIfInBounds_toArray, List.set_cons_zero, List.set_cons_succ]
              refine wpAnyH_take (i := 10) (v := Value.pointer (some ⟨ge, 3, none⟩)) rfl (by kernel_rfl) (by kernel_rfl) (by kernel_rfl) (fun _ _ _ h => h) (Or.inl ⟨rfl, fun w' hw' => ?_⟩) hHeld ?_
              · go_simp
              simp only [List.getElem_toArray, List.getElem_cons_succ, List.getElem_cons_zero, Act.put, List.setIfInBounds_toArray, List.set_cons_zero, List.set_cons_succ]
              refine wpAnyH_ready (rs := [11]) (by kernel_rfl) (by simp) ?_
              refine (AllReadyH.cons rfl (fun K hK => ?_) AllReadyH.nil)
              go_simp
              refine hK.out _ _ HS10.out (fun hHeld => ?_)
              clear hK K
              try simp only [List.getElem_toArray, List.getElem_cons_succ, List.getElem_cons_zero, Act.put, List.setIfInBounds_toArray, List.set_cons_zero, List.set_cons_succ]
              refine wpAnyH_done (by kernel_rfl) ?_ _
              refine NoPanic.normal ?_
              clear hHeld
              go_wp2_with fail
              go_roundw
              case rel => exact HR9.out
              case measure => simp [intOf]; omega
            · skip
              go_simp
              refine hK.out _ _ HS8.out (fun hHeld => ?_)
              clear hK K
              try simp only [List.getElem_toArray, List.getElem_cons_succ, List.getElem_cons_zero, Act.put, List.setIfInBounds_toArray, List.set_cons_zero, List.set_cons_succ]
              refine wpAnyH_ready (rs := [1]) (by kernel_rfl) (by simp) ?_
              refine (AllReadyH.cons rfl (fun K hK => ?_) AllReadyH.nil)
              go_simp
              refine hK.out _ _ HS8.out (fun hHeld => ?_)
              clear hK K
              try simp only [List.getElem_toArray, List.getElem_cons_succ, List.getElem_cons_zero, Act.put, List.setIfInBounds_toArray, List.set_cons_zero, List.set_cons_succ]
              refine wpAnyH_ready (rs := [9]) (by kernel_rfl) (by simp) ?_
              refine (AllReadyH.cons rfl (fun K hK => ?_) AllReadyH.nil)
              refine wp_app (Operand.tmp 22) (Operand.tmp 29) rfl W0.heap.size (.slice ao5 i ac5) i xs rfl HX.out _ 1 rfl #[.int .i64 k5, .string t5, nv5, av5].toList rfl (row_cells _ _) (one_cells HONE.out) hi1 HB8.out ?_
              intro v' w9 hown9 hg9 hv9
              obtain ⟨ao', ac', rfl⟩ := own_form hown9
              obtain ⟨S9, e9, f9, S10, HREL⟩ := HC.out _ _ _ hown9 hg9 hv9
              have HS9 := Lib.hid S9
              have HS10 := Lib.hid S10
              have HR9 := Lib.hid HREL
              clear hown9 hg9 hv9 S9 S10 HREL
              refine hK.out _ _ HS9.out (fun hHeld => ?_)
              clear hK K
              try simp only [List.getElem_toArray, List.getElem_cons_succ, List.getElem_cons_zero, Act.put, List.setIfInBounds_toArray, List.set_cons_zero, List.set_cons_succ]
              refine wpAnyH_take (i := 10) (v := Value.pointer (some ⟨ge, 3, none⟩)) rfl (by kernel_rfl) (by kernel_rfl) (by kernel_rfl) (fun _ _ _ h => h) (Or.inl ⟨rfl, fun w' hw' => ?_⟩) hHeld ?_
              · go_simp
              simp only [List.getElem_toArray, List.getElem_cons_succ, List.getElem_cons_zero, Act.put, List.setIfInBounds_toArray, List.set_cons_zero, List.set_cons_succ]
              refine wpAnyH_ready (rs := [11]) (by kernel_rfl) (by simp) ?_
              refine (AllReadyH.cons rfl (fun K hK => ?_) AllReadyH.nil)
              go_simp
              refine hK.out _ _ HS10.out (fun hHeld => ?_)
              clear hK K
              try simp only [List.getElem_toArray, List.getElem_cons_succ, List.getElem_cons_zero, Act.put, List.setIfInBounds_toArray, List.set_cons_zero, List.set_cons_succ]
              refine wpAnyH_done (by kernel_rfl) ?_ _
              refine NoPanic.normal ?_
              clear hHeld
              go_wp2_with fail
              go_roundw
              case rel => exact HR9.out
              case measure => simp [intOf]; omega
        · have q3 : decide ((i : Int) < (l.length : Int)) = false := decide_eq_false (by omega)
          obtain rfl : i = l.length := by omega
          have hz : wr.heap[gr]? = some (.cells Z4 28 (0, 0)) := row_below HBr.out HZ.out
          have hww := HB1.out.size
          have hown9 := HOW.out
          rw [List.take_length] at hown9
          have hgrw : w.heap.size ≤ gr := by have := HGR.out; have := HGS.out; omega
          have HF := Lib.hid (copy_end (k := k) (t := t) HB1.out HXB.out HBT.out HXN.out HAP.out hgrw hgr1 hge9 hown9)
          have hone : (#[.int .i64 k, .string t, .slice no' ns.length nc', .slice ao5 l.length ac5] : Array Value).all (·.oneCell') = true := by simp [Value.oneCell']
          have HZr := Lib.hid hz
          clear hown9 hz hww
          go_wp2_with (first | (refine wpList_load_row rfl 28 _ rfl ge rfl 28 #[.int .i64 k, .string t, .slice no' ns.length nc', .slice ao5 l.length ac5] (0, 0) _ HEB.out Try.underlying28 rfl info28 ?_) | (refine wpList_store_row rfl 28 _ _ rfl gr #[.int .i64 k, .string t, .slice no' ns.length nc', .slice ao5 l.length ac5] rfl rfl 28 Z4 HZr.out info28 rfl hone ?_))
          refine bodyPost_ret (results_cell_row rfl _ _ gr 28 #[.int .i64 k, .string t, .slice no' ns.length nc', .slice ao5 l.length ac5] (0, 0) _ rfl (setRow_heap wr _ _ _ 28 _ HZr.out) Try.underlying28 rfl info28) rfl ?_
          exact HF.out
end Go.Proofs.Ytpkcoplpfenliaa
