/- The walk of CoreAll. -/
import Derived.Test.YtpkcoplpfenliaaZF
import Derived.Test.YtpkcoplpfenliaaZT
import Derived.Test.YtpkcoplpfenliaaTM4
import Derived.Test.YtpkcoplpfenliaaK2
import Derived.Test.YtpkcoplpfenliaaS1
namespace Go.Proofs.Ytpkcoplpfenliaa
open Go.RowKit Go.BigM
set_option linter.unusedVariables false
set_option linter.unusedSimpArgs false
/-- The round: a term lies at ge, right, fine, not large; its own blocks are others. -/
def CaInv (ge : Nat) (w : World) (iv : Value) (wr : World) : Prop :=
  ∃ (i : Nat) (k : Int) (t : ByteArray) (nv av : Value) (e : Et), i ≤ 6 ∧ iv = .int .i64 (i : Int) ∧ EB wr ge k t nv av ∧ Et.At (fun x => x ≠ ge) wr e #[.int .i64 k, .string t, nv, av] ∧ e.right num = true ∧ e.fine ∧ e.size ≤ 400 ∧ Below w.heap.size w wr
set_option maxHeartbeats 8000000 in
set_option maxRecDepth 100000 in
theorem all_walk (l : List Rw) (ao0 : Option Addr) (cap : Nat) (n : Int) (w : World) (hR : RsAt w ao0 l) (hn : I64 n) : Calls Try.prog 4 #[.slice ao0 l.length cap, .int .i64 n] w (RetBool true w) := by
  have K0 := Lib.hid (fun w => known_any w)
  have HR := Lib.hid hR
  clear hR
  go_enter Try.func4, Try.ntmps4
  go_wp2_with fail
  refine (K0.out _).mono ?_
  rintro e w1 ⟨rfl, hb1⟩
  have HR1 := Lib.hid (HR.out.below hb1)
  have HB1 := Lib.hid hb1
  have HFE := Lib.hid (few_any l ao0 cap w1 HR1.out)
  clear hb1
  go_wp2_with fail
  refine HFE.out.mono ?_
  rintro e w2 ⟨r, rfl, hr, rfl⟩
  cases r with
  | false =>
    go_wp2_with fail
    go_ret
    exact ⟨rfl, HB1.out⟩
  | true =>
    have HT := Lib.hid (term_any l ao0 cap w1 HR1.out (hr rfl))
    clear hr
    go_upto_region 5 with fail
    go_wp2_with fail
    refine HT.out.mono ?_
    rintro e w5 ⟨cs, t0, m', rfl, hat, hM, hsz, hm', hb5⟩
    obtain ⟨k0, x0, nv0, av0, rfl, o10, o20⟩ := EAt_form hat
    have z0 : (#[.int .i64 k0, .string x0, nv0, av0] : Array Value).all (·.oneCell') = true := by simp [Value.oneCell'] at o10 o20 ⊢; exact ⟨o10, o20⟩
    have hb5w : Below w.heap.size w w5 := HB1.out.trans (hb5.mono HB1.out.size)
    have A6 := (Below.refl w5.heap.size w5).alloc (Nat.le_refl _) (.cells #[.int .i64 k0, .string x0, nv0, av0] 28)
    have H0 : Hid (CaInv w5.heap.size w (.int .i64 0) (w5.alloc (.cells #[.int .i64 k0, .string x0, nv0, av0] 28))) := ⟨0, k0, x0, nv0, av0, t0, by omega, rfl, alloc_at _ _, Et.At.keeps (Keeps.of_below A6) _ _ (Et.At.mono (fun x hx => by have := hx.2; omega) _ _ (Et.At.bound _ _ hat)), hM.right, hM.fine, hsz, hb5w.trans (A6.mono hb5w.size)⟩
    have hgw : w.heap.size ≤ w5.heap.size := hb5w.size
    clear hat hM hb5 HT HFE hm' hb5w A6 hsz
    go_upto_region 6 with (refine wpList_store_row rfl 28 _ _ rfl w5.heap.size #[.int .i64 k0, .string x0, nv0, av0] rfl rfl 28 Z4 (alloc_at _ _) info28 rfl z0 ?_)
    try simp only [Act.put]
    have E0 : (w5.alloc (.cells #[.int .i64 0, .string ⟨#[]⟩, .slice none 0 0, .slice none 0 0] 28)).setRow w5.heap.size #[.int .i64 k0, .string x0, nv0, av0] = w5.alloc (.cells #[.int .i64 k0, .string x0, nv0, av0] 28) := setRow_new _ _ _ _
    try rw [E0]
    clear E0
    generalize w5.alloc (.cells #[.int .i64 k0, .string x0, nv0, av0] 28) = W6 at H0 ⊢
    generalize w5.heap.size = ge at H0 hgw ⊢
    go_wp2_with fail
    go_loopw [6] (fun iv wr => CaInv ge w iv wr) (fun iv _ => 6 - (intOf iv).toNat)
    case atStart => exact H0.out
    case round =>
      clear H0
      obtain ⟨i, k, t, nv, av, e, hi6, rfl, heb, hat, hr, hf, hsz, hbw⟩ := hrel
      by_cases hi : i < 6
      · have q1 : decide ((i : Int) < 6) = true := decide_eq_true (by omega)
        obtain ⟨k', t', ns, lst⟩ := e
        have hat0 := hat
        rw [EAt_mk] at hat0
        obtain ⟨nv', av', hcs, hm, hla⟩ := hat0
        simp only [Array.mk.injEq, List.cons.injEq, Value.int.injEq, Value.string.injEq, true_and, and_true] at hcs
        obtain ⟨ek, et, en, ea⟩ := hcs
        subst ek et en ea
        obtain ⟨ao, ac, rfl⟩ := hla.form
        obtain ⟨no, nc, rfl⟩ := hm.form
        have hss : Et.sizes lst ≤ 399 := by simp only [Et.size] at hsz; omega
        have hln := length_esizes lst
        have HEB := Lib.hid heb
        have HBW := Lib.hid hbw
        have HAT := Lib.hid hat
        have HLA := Lib.hid hla
        have HS0 : Hid (Below wr.heap.size wr wr.drew) := (Below.refl _ _).drew
        obtain ⟨tb, htb⟩ : ∃ tb : ByteArray, tb = ⟨(Et.mk k t ns lst).wr.toArray⟩ := ⟨_, rfl⟩
        have HTX : Hid (∀ w', Below wr.heap.size wr w' → Calls Try.prog 19 #[.agg #[.int .i64 k, .string t, .slice no ns.length nc, .slice ao lst.length ac]] w' (RetStr tb w')) := fun w' hw' => by
          rw [htb]; exact text_any _ hr hf (by omega) _ _ w' (Et.At.keeps (Keeps.of_below hw') _ _ HAT.out)
        have HRX : Hid (∀ w', Below wr.heap.size wr w' → Calls Try.prog 20 #[.agg #[.int .i64 k, .string t, .slice no ns.length nc, .slice ao lst.length ac]] w' (RetStr tb w')) := fun w' hw' => by
          rw [htb]; exact reftext_any _ hr hf (by omega) _ _ w' (Et.At.keeps (Keeps.of_below hw') _ _ HAT.out)
        have HFR : Hid (∀ w', Below wr.heap.size wr w' → Calls Try.prog 22 #[.agg #[.int .i64 k, .string t, .slice no ns.length nc, .slice ao lst.length ac]] w' (RetFree (.mk k t ns lst) w')) := fun w' hw' => free_any _ hf (by omega) _ _ w' (Et.At.keeps (Keeps.of_below hw') _ _ HAT.out)
        have HRF : Hid (∀ w', Below wr.heap.size wr w' → Calls Try.prog 23 #[.agg #[.int .i64 k, .string t, .slice no ns.length nc, .slice ao lst.length ac]] w' (RetRF (.mk k t ns lst) w')) := fun w' hw' => reffree_any _ hr hf (by omega) _ _ w' (Et.At.keeps (Keeps.of_below hw') _ _ HAT.out)
        obtain ⟨z, hz⟩ : ∃ z : Nat, z = (Et.mk k t ns lst).size := ⟨_, rfl⟩
        have HSZ : Hid (∀ w', Below wr.heap.size wr w' → Calls Try.prog 24 #[.agg #[.int .i64 k, .string t, .slice no ns.length nc, .slice ao lst.length ac]] w' (RetInt (z : Int) w')) := fun w' hw' => by
          rw [hz]; exact size_any 400 (by decide) _ hsz _ _ w' (Et.At.keeps (Keeps.of_below hw') _ _ HAT.out)
        have HRZ : Hid (∀ w', Below wr.heap.size wr w' → Calls Try.prog 25 #[.agg #[.int .i64 k, .string t, .slice no ns.length nc, .slice ao lst.length ac]] w' (RetInt (z : Int) w')) := fun w' hw' => by
          rw [hz]; exact refsize_any 400 (by decide) _ hsz _ _ w' (Et.At.keeps (Keeps.of_below hw') _ _ HAT.out)
        have HCE : Hid (∀ w', Below wr.heap.size wr w' → w'.cell? ⟨ge, 0, none⟩ = some (.int .i64 k) ∧ w'.cell? ⟨ge, 1, none⟩ = some (.string t) ∧ w'.cell? ⟨ge, 2, none⟩ = some (.slice no ns.length nc) ∧ w'.cell? ⟨ge, 3, none⟩ = some (.slice ao lst.length ac)) := fun w' hw' => EB.cell w' ge k t _ _ (row_below hw' HEB.out)
        have HRT := Lib.hid hr
        have HFN := Lib.hid hf
        clear heb hbw hat hr hf hsz hm hla htb hz
        go_upto_region 9 with fail
        refine wp_region_noPanic ?_
        refine wp_region_held_drew (S := Below wr.heap.size wr) (by kernel_rfl) HS0.out (fun hHeld => ?_)
        generalize wr.drew = X at HS0 hHeld ⊢
        refine wpAnyH_take (i := 0) (v := Value.agg #[.int .i64 k, .string t, .slice no ns.length nc, .slice ao lst.length ac]) rfl (by kernel_rfl) (by kernel_rfl) (by kernel_rfl) (fun _ _ _ h => h) (Or.inl ⟨rfl, fun w' hw' => ?_⟩) hHeld ?_
        · obtain ⟨d0, d1, d2, d3⟩ := HCE.out w' hw'; go_simp
        simp only [List.getElem_toArray, List.getElem_cons_succ, List.getElem_cons_zero, Act.put, List.setIfInBounds_toArray, List.set_cons_zero, List.set_cons_succ]
        refine wpAnyH_take (i := 2) (v := Value.agg #[.int .i64 k, .string t, .slice no ns.length nc, .slice ao lst.length ac]) rfl (by kernel_rfl) (by kernel_rfl) (by kernel_rfl) (fun _ _ _ h => h) (Or.inl ⟨rfl, fun w' hw' => ?_⟩) hHeld ?_
        · obtain ⟨d0, d1, d2, d3⟩ := HCE.out w' hw'; go_simp
        simp only [List.getElem_toArray, List.getElem_cons_succ, List.getElem_cons_zero, Act.put, List.setIfInBounds_toArray, List.set_cons_zero, List.set_cons_succ]
        refine wpAnyH_ready (rs := [1]) (by kernel_rfl) (by simp) ?_
        refine (AllReadyH.cons rfl (fun K hK => ?_) AllReadyH.nil)
        go_simp
        refine (HTX.out _ HS0.out).mono ?_
        rintro r u1 ⟨rfl, hbq⟩
        have HS1 : Hid (Below wr.heap.size wr u1) := HS0.out.trans (hbq.mono HS0.out.size)
        clear hbq
        refine hK.out _ _ HS1.out (fun hHeld => ?_)
        clear hK K
        try simp only [List.getElem_toArray, List.getElem_cons_succ, List.getElem_cons_zero, Act.put, List.setIfInBounds_toArray, List.set_cons_zero, List.set_cons_succ]
        refine wpAnyH_ready (rs := [3]) (by kernel_rfl) (by simp) ?_
        refine (AllReadyH.cons rfl (fun K hK => ?_) AllReadyH.nil)
        go_simp
        refine (HRX.out _ HS1.out).mono ?_
        rintro r u3 ⟨rfl, hbq⟩
        have HS3 : Hid (Below wr.heap.size wr u3) := HS1.out.trans (hbq.mono HS1.out.size)
        clear hbq
        refine hK.out _ _ HS3.out (fun hHeld => ?_)
        clear hK K
        try simp only [List.getElem_toArray, List.getElem_cons_succ, List.getElem_cons_zero, Act.put, List.setIfInBounds_toArray, List.set_cons_zero, List.set_cons_succ]
        refine wpAnyH_take (i := 4) (v := Value.bool false) rfl (by kernel_rfl) (by kernel_rfl) (by kernel_rfl) (fun _ _ _ h => h) (Or.inl ⟨rfl, fun w' hw' => ?_⟩) hHeld ?_
        · go_simp
        simp only [List.getElem_toArray, List.getElem_cons_succ, List.getElem_cons_zero, Act.put, List.setIfInBounds_toArray, List.set_cons_zero, List.set_cons_succ]
        refine wpAnyH_take (i := 5) (v := Value.bool false) rfl (by kernel_rfl) (by kernel_rfl) (by kernel_rfl) (fun _ _ _ h => h) (Or.inl ⟨rfl, fun w' hw' => ?_⟩) hHeld ?_
        · go_simp
        simp only [List.getElem_toArray, List.getElem_cons_succ, List.getElem_cons_zero, Act.put, List.setIfInBounds_toArray, List.set_cons_zero, List.set_cons_succ]
        refine wpAnyH_take (i := 6) (v := Value.agg #[.int .i64 k, .string t, .slice no ns.length nc, .slice ao lst.length ac]) rfl (by kernel_rfl) (by kernel_rfl) (by kernel_rfl) (fun _ _ _ h => h) (Or.inl ⟨rfl, fun w' hw' => ?_⟩) hHeld ?_
        · obtain ⟨d0, d1, d2, d3⟩ := HCE.out w' hw'; go_simp
        simp only [List.getElem_toArray, List.getElem_cons_succ, List.getElem_cons_zero, Act.put, List.setIfInBounds_toArray, List.set_cons_zero, List.set_cons_succ]
        refine wpAnyH_take (i := 8) (v := Value.agg #[.int .i64 k, .string t, .slice no ns.length nc, .slice ao lst.length ac]) rfl (by kernel_rfl) (by kernel_rfl) (by kernel_rfl) (fun _ _ _ h => h) (Or.inl ⟨rfl, fun w' hw' => ?_⟩) hHeld ?_
        · obtain ⟨d0, d1, d2, d3⟩ := HCE.out w' hw'; go_simp
        simp only [List.getElem_toArray, List.getElem_cons_succ, List.getElem_cons_zero, Act.put, List.setIfInBounds_toArray, List.set_cons_zero, List.set_cons_succ]
        refine wpAnyH_ready (rs := [7]) (by kernel_rfl) (by simp) ?_
        refine (AllReadyH.cons rfl (fun K hK => ?_) AllReadyH.nil)
        go_simp
        refine (HFR.out _ HS3.out).mono ?_
        rintro r u7 ⟨v7, L7, rfl, g71, g72, g73, hbq⟩
        have HS7 : Hid (Below wr.heap.size wr u7) := HS3.out.trans (hbq.mono HS3.out.size)
        have G71 := Lib.hid g71
        have G72 := Lib.hid g72
        have G73 := Lib.hid g73
        obtain ⟨p7, q7, rfl⟩ := g71.form
        clear g71 g72 g73
        clear hbq
        refine hK.out _ _ HS7.out (fun hHeld => ?_)
        clear hK K
        try simp only [List.getElem_toArray, List.getElem_cons_succ, List.getElem_cons_zero, Act.put, List.setIfInBounds_toArray, List.set_cons_zero, List.set_cons_succ]
        refine wpAnyH_ready (rs := [9]) (by kernel_rfl) (by simp) ?_
        refine (AllReadyH.cons rfl (fun K hK => ?_) AllReadyH.nil)
        go_simp
        refine (HRF.out _ HS7.out).mono ?_
        rintro r u9 ⟨v9, L9, rfl, g91, g92, g93, g94, hbq⟩
        have HS9 : Hid (Below wr.heap.size wr u9) := HS7.out.trans (hbq.mono HS7.out.size)
        have HT10 := Lib.hid (texts_any L7 L9 _ _ _ _ u9 (G71.out.keeps (Keeps.of_below hbq)) g91 (by have h := srt_ext G72.out g92 (fun s => (G73.out s).trans (g93 s).symm); rw [h]; simp only [Et.size] at g94; omega) (by simp only [Et.size] at g94; omega))
        rw [decide_eq_true (srt_ext G72.out g92 (fun s => (G73.out s).trans (g93 s).symm))] at HT10
        obtain ⟨p9, q9, rfl⟩ := g91.form
        clear g91 g92 g93 g94
        clear hbq
        refine hK.out _ _ HS9.out (fun hHeld => ?_)
        clear hK K
        try simp only [List.getElem_toArray, List.getElem_cons_succ, List.getElem_cons_zero, Act.put, List.setIfInBounds_toArray, List.set_cons_zero, List.set_cons_succ]
        refine wpAnyH_ready (rs := [10]) (by kernel_rfl) (by simp) ?_
        refine (AllReadyH.cons rfl (fun K hK => ?_) AllReadyH.nil)
        go_simp
        refine (HT10.out).mono ?_
        rintro r u10 ⟨rfl, hbq⟩
        have HS10 : Hid (Below wr.heap.size wr u10) := HS9.out.trans (hbq.mono HS9.out.size)
        clear hbq
        refine hK.out _ _ HS10.out (fun hHeld => ?_)
        clear hK K
        try simp only [List.getElem_toArray, List.getElem_cons_succ, List.getElem_cons_zero, Act.put, List.setIfInBounds_toArray, List.set_cons_zero, List.set_cons_succ]
        refine wpAnyH_take (i := 11) (v := Value.bool false) rfl (by kernel_rfl) (by kernel_rfl) (by kernel_rfl) (fun _ _ _ h => h) (Or.inl ⟨rfl, fun w' hw' => ?_⟩) hHeld ?_
        · go_simp
        simp only [List.getElem_toArray, List.getElem_cons_succ, List.getElem_cons_zero, Act.put, List.setIfInBounds_toArray, List.set_cons_zero, List.set_cons_succ]
        refine wpAnyH_take (i := 12) (v := Value.bool false) rfl (by kernel_rfl) (by kernel_rfl) (by kernel_rfl) (fun _ _ _ h => h) (Or.inl ⟨rfl, fun w' hw' => ?_⟩) hHeld ?_
        · go_simp
        simp only [List.getElem_toArray, List.getElem_cons_succ, List.getElem_cons_zero, Act.put, List.setIfInBounds_toArray, List.set_cons_zero, List.set_cons_succ]
        refine wpAnyH_take (i := 13) (v := Value.bool false) rfl (by kernel_rfl) (by kernel_rfl) (by kernel_rfl) (fun _ _ _ h => h) (Or.inl ⟨rfl, fun w' hw' => ?_⟩) hHeld ?_
        · go_simp
        simp only [List.getElem_toArray, List.getElem_cons_succ, List.getElem_cons_zero, Act.put, List.setIfInBounds_toArray, List.set_cons_zero, List.set_cons_succ]
        refine wpAnyH_take (i := 14) (v := Value.agg #[.int .i64 k, .string t, .slice no ns.length nc, .slice ao lst.length ac]) rfl (by kernel_rfl) (by kernel_rfl) (by kernel_rfl) (fun _ _ _ h => h) (Or.inl ⟨rfl, fun w' hw' => ?_⟩) hHeld ?_
        · obtain ⟨d0, d1, d2, d3⟩ := HCE.out w' hw'; go_simp
        simp only [List.getElem_toArray, List.getElem_cons_succ, List.getElem_cons_zero, Act.put, List.setIfInBounds_toArray, List.set_cons_zero, List.set_cons_succ]
        refine wpAnyH_take (i := 16) (v := Value.agg #[.int .i64 k, .string t, .slice no ns.length nc, .slice ao lst.length ac]) rfl (by kernel_rfl) (by kernel_rfl) (by kernel_rfl) (fun _ _ _ h => h) (Or.inl ⟨rfl, fun w' hw' => ?_⟩) hHeld ?_
        · obtain ⟨d0, d1, d2, d3⟩ := HCE.out w' hw'; go_simp
        simp only [List.getElem_toArray, List.getElem_cons_succ, List.getElem_cons_zero, Act.put, List.setIfInBounds_toArray, List.set_cons_zero, List.set_cons_succ]
        refine wpAnyH_ready (rs := [15]) (by kernel_rfl) (by simp) ?_
        refine (AllReadyH.cons rfl (fun K hK => ?_) AllReadyH.nil)
        go_simp
        refine (HSZ.out _ HS10.out).mono ?_
        rintro r u15 ⟨rfl, hbq⟩
        have HS15 : Hid (Below wr.heap.size wr u15) := HS10.out.trans (hbq.mono HS10.out.size)
        clear hbq
        refine hK.out _ _ HS15.out (fun hHeld => ?_)
        clear hK K
        try simp only [List.getElem_toArray, List.getElem_cons_succ, List.getElem_cons_zero, Act.put, List.setIfInBounds_toArray, List.set_cons_zero, List.set_cons_succ]
        refine wpAnyH_ready (rs := [17]) (by kernel_rfl) (by simp) ?_
        refine (AllReadyH.cons rfl (fun K hK => ?_) AllReadyH.nil)
        go_simp
        refine (HRZ.out _ HS15.out).mono ?_
        rintro r u17 ⟨rfl, hbq⟩
        have HS17 : Hid (Below wr.heap.size wr u17) := HS15.out.trans (hbq.mono HS15.out.size)
        clear hbq
        refine hK.out _ _ HS17.out (fun hHeld => ?_)
        clear hK K
        try simp only [List.getElem_toArray, List.getElem_cons_succ, List.getElem_cons_zero, Act.put, List.setIfInBounds_toArray, List.set_cons_zero, List.set_cons_succ]
        refine wpAnyH_take (i := 18) (v := Value.bool false) rfl (by kernel_rfl) (by kernel_rfl) (by kernel_rfl) (fun _ _ _ h => h) (Or.inl ⟨rfl, fun w' hw' => ?_⟩) hHeld ?_
        · go_simp
        simp only [List.getElem_toArray, List.getElem_cons_succ, List.getElem_cons_zero, Act.put, List.setIfInBounds_toArray, List.set_cons_zero, List.set_cons_succ]
        refine wpAnyH_take (i := 19) (v := Value.bool false) rfl (by kernel_rfl) (by kernel_rfl) (by kernel_rfl) (fun _ _ _ h => h) (Or.inl ⟨rfl, fun w' hw' => ?_⟩) hHeld ?_
        · go_simp
        simp only [List.getElem_toArray, List.getElem_cons_succ, List.getElem_cons_zero, Act.put, List.setIfInBounds_toArray, List.set_cons_zero, List.set_cons_succ]
        refine wpAnyH_done (by kernel_rfl) ?_ _
        refine NoPanic.normal ?_
        clear hHeld
        have HBX := Lib.hid (HBW.out.trans (HS17.out.mono HBW.out.size))
        have HEX : Hid (EB u17 ge k t (.slice no ns.length nc) (.slice ao lst.length ac)) := row_below HS17.out HEB.out
        have HLX := Lib.hid (HLA.out.keeps (Keeps.of_below HS17.out))
        clear HS0 HS1 HS3 HS7 HS9 HS10 HS15 HTX HRX HFR HRF HSZ HRZ HT10 G71 G72 G73 HCE HEB HBW HAT HLA HS17
        obtain ⟨d0, d1, d2, d3⟩ := EB.cell _ _ _ _ _ _ HEX.out
        by_cases hl0 : lst.length = 0
        · have q2 : ((lst.length : Int) == 0) = true := by simp [hl0]
          have p2 : lst = [] := List.length_eq_zero_iff.1 hl0
          clear hl0
          go_wp2_with fail
          go_ret
          exact ⟨rfl, HBX.out⟩
        · have q2 : ((lst.length : Int) == 0) = false := by simp; rintro rfl; simp at hl0
          have p2 : lst ≠ [] := by rintro rfl; simp at hl0
          have FJ := Lib.hid (fun w => within_some2 (wrap64 (n + (i : Int))) lst.length (I64_wrap _) (by omega) (by omega) w)
          clear hl0
          go_upto_region 13 with fail
          have HS0 : Hid (But u17.heap.size ge u17 u17.drew) := (But.refl _ _ _).drew
          have c3X : u17.drew.cell? ⟨ge, 3, none⟩ = some (.slice ao lst.length ac) := d3
          have HEX2 : Hid (EB u17.drew ge k t (.slice no ns.length nc) (.slice ao lst.length ac)) := HEX.out
          refine wp_region_noPanic ?_
          refine wp_region_held_drew (S := But u17.heap.size ge u17) (by kernel_rfl) HS0.out (fun hHeld => ?_)
          generalize u17.drew = X at HS0 hHeld c3X HEX2 ⊢
          refine wpAnyH_take (i := 0) (v := Value.pointer (some ⟨ge, 3, none⟩)) rfl (by kernel_rfl) (by kernel_rfl) (by kernel_rfl) (fun _ _ _ h => h) (Or.inl ⟨rfl, fun w' hw' => ?_⟩) hHeld ?_
          · go_simp
          simp only [List.getElem_toArray, List.getElem_cons_succ, List.getElem_cons_zero, Act.put, List.setIfInBounds_toArray, List.set_cons_zero, List.set_cons_succ]
          refine wpAnyH_take (i := 2) (v := Value.int .i64 n) rfl (by kernel_rfl) (by kernel_rfl) (by kernel_rfl) (fun _ _ _ h => h) (Or.inl ⟨rfl, fun w' hw' => ?_⟩) hHeld ?_
          · go_simp
          simp only [List.getElem_toArray, List.getElem_cons_succ, List.getElem_cons_zero, Act.put, List.setIfInBounds_toArray, List.set_cons_zero, List.set_cons_succ]
          refine wpAnyH_take (i := 3) (v := Value.int .i64 (i : Int)) rfl (by kernel_rfl) (by kernel_rfl) (by kernel_rfl) (fun _ _ _ h => h) (Or.inl ⟨rfl, fun w' hw' => ?_⟩) hHeld ?_
          · go_simp
          simp only [List.getElem_toArray, List.getElem_cons_succ, List.getElem_cons_zero, Act.put, List.setIfInBounds_toArray, List.set_cons_zero, List.set_cons_succ]
          refine wpAnyH_take (i := 4) (v := Value.int .i64 (wrap64 (n + (i : Int)))) rfl (by kernel_rfl) (by kernel_rfl) (by kernel_rfl) (fun _ _ _ h => h) (Or.inl ⟨rfl, fun w' hw' => ?_⟩) hHeld ?_
          · go_simp; first | done | (rw [IntKind.wrap_i64]; unfold wrap64; first | rfl | omega)
          simp only [List.getElem_toArray, List.getElem_cons_succ, List.getElem_cons_zero, Act.put, List.setIfInBounds_toArray, List.set_cons_zero, List.set_cons_succ]
          refine wpAnyH_take (i := 5) (v := Value.pointer (some ⟨ge, 3, none⟩)) rfl (by kernel_rfl) (by kernel_rfl) (by kernel_rfl) (fun _ _ _ h => h) (Or.inl ⟨rfl, fun w' hw' => ?_⟩) hHeld ?_
          · go_simp
          simp only [List.getElem_toArray, List.getElem_cons_succ, List.getElem_cons_zero, Act.put, List.setIfInBounds_toArray, List.set_cons_zero, List.set_cons_succ]
          refine wpAnyH_ready (rs := [1, 6]) (by kernel_rfl) (by simp) ?_
          refine (AllReadyH.cons rfl (fun K hK => ?_) (AllReadyH.cons rfl (fun K hK => ?_) AllReadyH.nil))
          · skip
            go_simp
            refine hK.out _ _ HS0.out (fun hHeld => ?_)
            clear hK K
            try simp only [List.getElem_toArray, List.getElem_cons_succ, List.getElem_cons_zero, Act.put, List.setIfInBounds_toArray, List.set_cons_zero, List.set_cons_succ]
            refine wpAnyH_ready (rs := [6]) (by kernel_rfl) (by simp) ?_
            refine (AllReadyH.cons rfl (fun K hK => ?_) AllReadyH.nil)
            go_simp
            refine hK.out _ _ HS0.out (fun hHeld => ?_)
            clear hK K
            try simp only [List.getElem_toArray, List.getElem_cons_succ, List.getElem_cons_zero, Act.put, List.setIfInBounds_toArray, List.set_cons_zero, List.set_cons_succ]
            refine wpAnyH_take (i := 7) (v := Value.int .i64 (lst.length : Int)) rfl (by kernel_rfl) (by kernel_rfl) (by kernel_rfl) (fun _ _ _ h => h) (Or.inl ⟨rfl, fun w' hw' => ?_⟩) hHeld ?_
            · go_simp
            simp only [List.getElem_toArray, List.getElem_cons_succ, List.getElem_cons_zero, Act.put, List.setIfInBounds_toArray, List.set_cons_zero, List.set_cons_succ]
            refine wpAnyH_ready (rs := [8]) (by kernel_rfl) (by simp) ?_
            refine (AllReadyH.cons rfl (fun K hK => ?_) AllReadyH.nil)
            go_simp
            refine (FJ.out _).mono ?_
            rintro r wq ⟨j, hj, rfl, rfl⟩
            refine hK.out _ _ HS0.out (fun hHeld => ?_)
            clear hK K
            try simp only [List.getElem_toArray, List.getElem_cons_succ, List.getElem_cons_zero, Act.put, List.setIfInBounds_toArray, List.set_cons_zero, List.set_cons_succ]
            obtain ⟨g, og, k5, t5, nv5, av5, rfl, hS5, -, hat5, e0, e1, e2, e3, o5, o6⟩ := HLX.out.get j hj
            have hgne : g ≠ ge := hS5
            have hgl : g < u17.heap.size := World.block_lt_of_cell? u17 ⟨g, og + j * 4, none⟩ e0
            have z5 : (#[.int .i64 k5, .string t5, nv5, av5] : Array Value).all (·.oneCell') = true := by simp [Value.oneCell'] at o5 o6 ⊢; exact ⟨o5, o6⟩
            have p9 : ¬ ((lst.length : Int) ≤ (j : Int)) := by omega
            have HPC : Hid (∀ w', But u17.heap.size ge u17 w' → w'.cell? ⟨g, og + j * 4, none⟩ = some (.int .i64 k5) ∧ w'.cell? ⟨g, og + j * 4 + 1, none⟩ = some (.string t5) ∧ w'.cell? ⟨g, og + j * 4 + 2, none⟩ = some nv5 ∧ w'.cell? ⟨g, og + j * 4 + 3, none⟩ = some av5) := fun w' hw' => ⟨(hw'.cell (p := ⟨g, og + j * 4, none⟩) hgl hgne).trans e0, (hw'.cell (p := ⟨g, og + j * 4 + 1, none⟩) hgl hgne).trans e1, (hw'.cell (p := ⟨g, og + j * 4 + 2, none⟩) hgl hgne).trans e2, (hw'.cell (p := ⟨g, og + j * 4 + 3, none⟩) hgl hgne).trans e3⟩
            have HSE : Hid (But u17.heap.size ge u17 (X.setRow ge #[.int .i64 k5, .string t5, nv5, av5])) := HS0.out.trans ⟨rfl, rfl, rfl, by simp, fun x hx hne => setRow_other X ge x _ hne⟩
            have HNX : Hid (CaInv ge w (.int .i64 ((i : Int) + 1)) (X.setRow ge #[.int .i64 k5, .string t5, nv5, av5])) := by
              have h1 := HRT.out
              rw [right_mk, Bool.and_eq_true] at h1
              have h2 := HFN.out
              rw [fine_mk] at h2
              refine ⟨i + 1, k5, t5, nv5, av5, lst[j], by omega, by go_num, setRow_heap X _ _ _ 28 _ HEX2.out, Et.At.keeps (fun x c T fz hx hxx _ => ⟨fz, by rw [HSE.out.block x (Array.getElem?_eq_some_iff.1 hxx).1 hx]; exact hxx⟩) _ _ hat5, (rights_all lst).1 h1.2 _ (List.getElem_mem hj), h2.2.2.2 _ (List.getElem_mem hj), by have := esize_get lst j hj; omega, HBX.out.trans (HSE.out.toBelow HBX.out.size hgw)⟩
            clear hat5 hS5 e0 e1 e2 e3
            refine wpAnyH_take (i := 9) (v := Value.pointer (some ⟨g, og + j * 4, none⟩)) rfl (by kernel_rfl) (by kernel_rfl) (by kernel_rfl) (fun _ _ _ h => h) (Or.inl ⟨rfl, fun w' hw' => ?_⟩) hHeld ?_
            · go_simp
            simp only [List.getElem_toArray, List.getElem_cons_succ, List.getElem_cons_zero, Act.put, List.setIfInBounds_toArray, List.set_cons_zero, List.set_cons_succ]
            refine wpAnyH_take (i := 10) (v := Value.agg #[.int .i64 k5, .string t5, nv5, av5]) rfl (by kernel_rfl) (by kernel_rfl) (by kernel_rfl) (fun _ _ _ h => h) (Or.inl ⟨rfl, fun w' hw' => ?_⟩) hHeld ?_
            · obtain ⟨d0, d1, d2, d3⟩ := HPC.out w' hw'; go_simp
            simp only [List.getElem_toArray, List.getElem_cons_succ, List.getElem_cons_zero, Act.put, List.setIfInBounds_toArray, List.set_cons_zero, List.set_cons_succ]
            refine wpAnyH_ready (rs := [11]) (by kernel_rfl) (by simp) ?_
            refine (AllReadyH.cons rfl (fun K hK => ?_) AllReadyH.nil)
            refine wp_store_row 28 _ _ rfl ge #[.int .i64 k5, .string t5, nv5, av5] (by go_simp) rfl 28 #[.int .i64 k, .string t, .slice no ns.length nc, .slice (some ⟨g, og, none⟩) lst.length ac] HEX2.out info28 rfl z5 ?_
            refine hK.out _ _ HSE.out (fun hHeld => ?_)
            clear hK K
            try simp only [List.getElem_toArray, List.getElem_cons_succ, List.getElem_cons_zero, Act.put, List.setIfInBounds_toArray, List.set_cons_zero, List.set_cons_succ]
            refine wpAnyH_done (by kernel_rfl) ?_ _
            refine NoPanic.normal ?_
            clear hHeld
            go_wp2_with fail
            go_roundw
            case rel => exact HNX.out
            case measure => simp [intOf]; omega
          · skip
            go_simp
            refine hK.out _ _ HS0.out (fun hHeld => ?_)
            clear hK K
            try simp only [List.getElem_toArray, List.getElem_cons_succ, List.getElem_cons_zero, Act.put, List.setIfInBounds_toArray, List.set_cons_zero, List.set_cons_succ]
            refine wpAnyH_take (i := 7) (v := Value.int .i64 (lst.length : Int)) rfl (by kernel_rfl) (by kernel_rfl) (by kernel_rfl) (fun _ _ _ h => h) (Or.inl ⟨rfl, fun w' hw' => ?_⟩) hHeld ?_
            · go_simp
            simp only [List.getElem_toArray, List.getElem_cons_succ, List.getElem_cons_zero, Act.put, List.setIfInBounds_toArray, List.set_cons_zero, List.set_cons_succ]
            refine wpAnyH_ready (rs := [1, 8]) (by kernel_rfl) (by simp) ?_
            refine (AllReadyH.cons rfl (fun K hK => ?_) (AllReadyH.cons rfl (fun K hK => ?_) AllReadyH.nil))
            · skip
              go_simp
              refine hK.out _ _ HS0.out (fun hHeld => ?_)
              clear hK K
              try simp only [List.getElem_toArray, List.getElem_cons_succ, List.getElem_cons_zero, Act.put, List.setIfInBounds_toArray, List.set_cons_zero, List.set_cons_succ]
              refine wpAnyH_ready (rs := [8]) (by kernel_rfl) (by simp) ?_
              refine (AllReadyH.cons rfl (fun K hK => ?_) AllReadyH.nil)
              go_simp
              refine (FJ.out _).mono ?_
              rintro r wq ⟨j, hj, rfl, rfl⟩
              refine hK.out _ _ HS0.out (fun hHeld => ?_)
              clear hK K
              try simp only [List.getElem_toArray, List.getElem_cons_succ, List.getElem_cons_zero, Act.put, List.setIfInBounds_toArray, List.set_cons_zero, List.set_cons_succ]
              obtain ⟨g, og, k5, t5, nv5, av5, rfl, hS5, -, hat5, e0, e1, e2, e3, o5, o6⟩ := HLX.out.get j hj
              have hgne : g ≠ ge := hS5
              have hgl : g < u17.heap.size := World.block_lt_of_cell? u17 ⟨g, og + j * 4, none⟩ e0
              have z5 : (#[.int .i64 k5, .string t5, nv5, av5] : Array Value).all (·.oneCell') = true := by simp [Value.oneCell'] at o5 o6 ⊢; exact ⟨o5, o6⟩
              have p9 : ¬ ((lst.length : Int) ≤ (j : Int)) := by omega
              have HPC : Hid (∀ w', But u17.heap.size ge u17 w' → w'.cell? ⟨g, og + j * 4, none⟩ = some (.int .i64 k5) ∧ w'.cell? ⟨g, og + j * 4 + 1, none⟩ = some (.string t5) ∧ w'.cell? ⟨g, og + j * 4 + 2, none⟩ = some nv5 ∧ w'.cell? ⟨g, og + j * 4 + 3, none⟩ = some av5) := fun w' hw' => ⟨(hw'.cell (p := ⟨g, og + j * 4, none⟩) hgl hgne).trans e0, (hw'.cell (p := ⟨g, og + j * 4 + 1, none⟩) hgl hgne).trans e1, (hw'.cell (p := ⟨g, og + j * 4 + 2, none⟩) hgl hgne).trans e2, (hw'.cell (p := ⟨g, og + j * 4 + 3, none⟩) hgl hgne).trans e3⟩
              have HSE : Hid (But u17.heap.size ge u17 (X.setRow ge #[.int .i64 k5, .string t5, nv5, av5])) := HS0.out.trans ⟨rfl, rfl, rfl, by simp, fun x hx hne => setRow_other X ge x _ hne⟩
              have HNX : Hid (CaInv ge w (.int .i64 ((i : Int) + 1)) (X.setRow ge #[.int .i64 k5, .string t5, nv5, av5])) := by
                have h1 := HRT.out
                rw [right_mk, Bool.and_eq_true] at h1
                have h2 := HFN.out
                rw [fine_mk] at h2
                refine ⟨i + 1, k5, t5, nv5, av5, lst[j], by omega, by go_num, setRow_heap X _ _ _ 28 _ HEX2.out, Et.At.keeps (fun x c T fz hx hxx _ => ⟨fz, by rw [HSE.out.block x (Array.getElem?_eq_some_iff.1 hxx).1 hx]; exact hxx⟩) _ _ hat5, (rights_all lst).1 h1.2 _ (List.getElem_mem hj), h2.2.2.2 _ (List.getElem_mem hj), by have := esize_get lst j hj; omega, HBX.out.trans (HSE.out.toBelow HBX.out.size hgw)⟩
              clear hat5 hS5 e0 e1 e2 e3
              refine wpAnyH_take (i := 9) (v := Value.pointer (some ⟨g, og + j * 4, none⟩)) rfl (by kernel_rfl) (by kernel_rfl) (by kernel_rfl) (fun _ _ _ h => h) (Or.inl ⟨rfl, fun w' hw' => ?_⟩) hHeld ?_
              · go_simp
              simp only [List.getElem_toArray, List.getElem_cons_succ, List.getElem_cons_zero, Act.put, List.setIfInBounds_toArray, List.set_cons_zero, List.set_cons_succ]
              refine wpAnyH_take (i := 10) (v := Value.agg #[.int .i64 k5, .string t5, nv5, av5]) rfl (by kernel_rfl) (by kernel_rfl) (by kernel_rfl) (fun _ _ _ h => h) (Or.inl ⟨rfl, fun w' hw' => ?_⟩) hHeld ?_
              · obtain ⟨d0, d1, d2, d3⟩ := HPC.out w' hw'; go_simp
              simp only [List.getElem_toArray, List.getElem_cons_succ, List.getElem_cons_zero, Act.put, List.setIfInBounds_toArray, List.set_cons_zero, List.set_cons_succ]
              refine wpAnyH_ready (rs := [11]) (by kernel_rfl) (by simp) ?_
              refine (AllReadyH.cons rfl (fun K hK => ?_) AllReadyH.nil)
              refine wp_store_row 28 _ _ rfl ge #[.int .i64 k5, .string t5, nv5, av5] (by go_simp) rfl 28 #[.int .i64 k, .string t, .slice no ns.length nc, .slice (some ⟨g, og, none⟩) lst.length ac] HEX2.out info28 rfl z5 ?_
              refine hK.out _ _ HSE.out (fun hHeld => ?_)
              clear hK K
              try simp only [List.getElem_toArray, List.getElem_cons_succ, List.getElem_cons_zero, Act.put, List.setIfInBounds_toArray, List.set_cons_zero, List.set_cons_succ]
              refine wpAnyH_done (by kernel_rfl) ?_ _
              refine NoPanic.normal ?_
              clear hHeld
              go_wp2_with fail
              go_roundw
              case rel => exact HNX.out
              case measure => simp [intOf]; omega
            · skip
              go_simp
              refine (FJ.out _).mono ?_
              rintro r wq ⟨j, hj, rfl, rfl⟩
              refine hK.out _ _ HS0.out (fun hHeld => ?_)
              clear hK K
              try simp only [List.getElem_toArray, List.getElem_cons_succ, List.getElem_cons_zero, Act.put, List.setIfInBounds_toArray, List.set_cons_zero, List.set_cons_succ]
              refine wpAnyH_ready (rs := [1]) (by kernel_rfl) (by simp) ?_
              refine (AllReadyH.cons rfl (fun K hK => ?_) AllReadyH.nil)
              go_simp
              refine hK.out _ _ HS0.out (fun hHeld => ?_)
              clear hK K
              try simp only [List.getElem_toArray, List.getElem_cons_succ, List.getElem_cons_zero, Act.put, List.setIfInBounds_toArray, List.set_cons_zero, List.set_cons_succ]
              obtain ⟨g, og, k5, t5, nv5, av5, rfl, hS5, -, hat5, e0, e1, e2, e3, o5, o6⟩ := HLX.out.get j hj
              have hgne : g ≠ ge := hS5
              have hgl : g < u17.heap.size := World.block_lt_of_cell? u17 ⟨g, og + j * 4, none⟩ e0
              have z5 : (#[.int .i64 k5, .string t5, nv5, av5] : Array Value).all (·.oneCell') = true := by simp [Value.oneCell'] at o5 o6 ⊢; exact ⟨o5, o6⟩
              have p9 : ¬ ((lst.length : Int) ≤ (j : Int)) := by omega
              have HPC : Hid (∀ w', But u17.heap.size ge u17 w' → w'.cell? ⟨g, og + j * 4, none⟩ = some (.int .i64 k5) ∧ w'.cell? ⟨g, og + j * 4 + 1, none⟩ = some (.string t5) ∧ w'.cell? ⟨g, og + j * 4 + 2, none⟩ = some nv5 ∧ w'.cell? ⟨g, og + j * 4 + 3, none⟩ = some av5) := fun w' hw' => ⟨(hw'.cell (p := ⟨g, og + j * 4, none⟩) hgl hgne).trans e0, (hw'.cell (p := ⟨g, og + j * 4 + 1, none⟩) hgl hgne).trans e1, (hw'.cell (p := ⟨g, og + j * 4 + 2, none⟩) hgl hgne).trans e2, (hw'.cell (p := ⟨g, og + j * 4 + 3, none⟩) hgl hgne).trans e3⟩
              have HSE : Hid (But u17.heap.size ge u17 (X.setRow ge #[.int .i64 k5, .string t5, nv5, av5])) := HS0.out.trans ⟨rfl, rfl, rfl, by simp, fun x hx hne => setRow_other X ge x _ hne⟩
              have HNX : Hid (CaInv ge w (.int .i64 ((i : Int) + 1)) (X.setRow ge #[.int .i64 k5, .string t5, nv5, av5])) := by
                have h1 := HRT.out
                rw [right_mk, Bool.and_eq_true] at h1
                have h2 := HFN.out
                rw [fine_mk] at h2
                refine ⟨i + 1, k5, t5, nv5, av5, lst[j], by omega, by go_num, setRow_heap X _ _ _ 28 _ HEX2.out, Et.At.keeps (fun x c T fz hx hxx _ => ⟨fz, by rw [HSE.out.block x (Array.getElem?_eq_some_iff.1 hxx).1 hx]; exact hxx⟩) _ _ hat5, (rights_all lst).1 h1.2 _ (List.getElem_mem hj), h2.2.2.2 _ (List.getElem_mem hj), by have := esize_get lst j hj; omega, HBX.out.trans (HSE.out.toBelow HBX.out.size hgw)⟩
              clear hat5 hS5 e0 e1 e2 e3
              refine wpAnyH_take (i := 9) (v := Value.pointer (some ⟨g, og + j * 4, none⟩)) rfl (by kernel_rfl) (by kernel_rfl) (by kernel_rfl) (fun _ _ _ h => h) (Or.inl ⟨rfl, fun w' hw' => ?_⟩) hHeld ?_
              · go_simp
              simp only [List.getElem_toArray, List.getElem_cons_succ, List.getElem_cons_zero, Act.put, List.setIfInBounds_toArray, List.set_cons_zero, List.set_cons_succ]
              refine wpAnyH_take (i := 10) (v := Value.agg #[.int .i64 k5, .string t5, nv5, av5]) rfl (by kernel_rfl) (by kernel_rfl) (by kernel_rfl) (fun _ _ _ h => h) (Or.inl ⟨rfl, fun w' hw' => ?_⟩) hHeld ?_
              · obtain ⟨d0, d1, d2, d3⟩ := HPC.out w' hw'; go_simp
              simp only [List.getElem_toArray, List.getElem_cons_succ, List.getElem_cons_zero, Act.put, List.setIfInBounds_toArray, List.set_cons_zero, List.set_cons_succ]
              refine wpAnyH_ready (rs := [11]) (by kernel_rfl) (by simp) ?_
              refine (AllReadyH.cons rfl (fun K hK => ?_) AllReadyH.nil)
              refine wp_store_row 28 _ _ rfl ge #[.int .i64 k5, .string t5, nv5, av5] (by go_simp) rfl 28 #[.int .i64 k, .string t, .slice no ns.length nc, .slice (some ⟨g, og, none⟩) lst.length ac] HEX2.out info28 rfl z5 ?_
              refine hK.out _ _ HSE.out (fun hHeld => ?_)
              clear hK K
              try simp only [List.getElem_toArray, List.getElem_cons_succ, List.getElem_cons_zero, Act.put, List.setIfInBounds_toArray, List.set_cons_zero, List.set_cons_succ]
              refine wpAnyH_done (by kernel_rfl) ?_ _
              refine NoPanic.normal ?_
              clear hHeld
              go_wp2_with fail
              go_roundw
              case rel => exact HNX.out
              case measure => simp [intOf]; omega
      · have q1 : decide ((i : Int) < 6) = false := decide_eq_false (by omega)
        clear heb hat
        go_wp2_with fail
        go_ret
        exact ⟨rfl, hbw⟩
end Go.Proofs.Ytpkcoplpfenliaa
