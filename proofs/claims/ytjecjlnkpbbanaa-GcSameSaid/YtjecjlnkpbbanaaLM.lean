/- GcSame, walked. -/
import Derived.Test.YtjecjlnkpbbanaaL24
import Derived.Test.YtjecjlnkpbbanaaG7
import Derived.Test.YtjecjlnkpbbanaaZB
namespace Go.Proofs.Ytjecjlnkpbbanaa
open Go Go.RowKit
set_option linter.unusedVariables false
set_option linter.unusedSimpArgs false
def SamI (os : List Ob) (rs : List Int) (w3 : World) (U1 gs : Nat) (qv qv2 iv : Value) (wr : World) : Prop :=
  ∃ (i n : Nat) (Q S : List Int) (l : List Bool), n = Q.length ∧ i ≤ n ∧ iv = .int .i64 (i : Int) ∧ Sb os rs Q S ∧ Qs w3 gs qv qv2 n Q (Q.map (pt os rs)) l wr ∧ l.length = U1 ∧ SeenAt l S
set_option maxHeartbeats 16000000 in
set_option maxRecDepth 100000 in
theorem same_walk (a : Option Addr) (len cap : Nat) (zs : List Int) (a2 : Option Addr) (len2 cap2 : Nat) (zs2 : List Int) (w : World) (hA : IsRow .i64 w a len cap zs) (hA2 : IsRow .i64 w a2 len2 cap2 zs2) :
    Calls Try.prog 6 #[.slice a len cap, .slice a2 len2 cap2] w (RetV (.bool true) w) := by
  have HA := Lib.hid hA.arg
  have HA2 := Lib.hid hA2.arg
  clear hA hA2 zs zs2
  go_enter Try.func6, Try.ntmps6
  go_wp2_with fail
  refine (known_any w).mono ?_
  rintro e wk ⟨rfl, hbk⟩
  have HBK := Lib.hid hbk
  clear hbk
  go_wp2_with fail
  refine (both_any a len cap wk (HA.out.below HBK.out)).mono ?_
  rintro e w1 ⟨b, x, G, C, qs, os, rfl, hp⟩
  have HP := Lib.hid (hp.base HBK.out)
  clear hp HA
  go_wp2_with fail
  refine (roots_any HP.out.rh a2 len2 cap2 (HA2.out.below HP.out.hl.bel)).mono ?_
  rintro e w2 ⟨ro, rc, rs, rfl, hown, hrl, hrv, hb2⟩
  have HP2 := Lib.hid (HP.out.below hb2)
  have HRS := Lib.hid (own_isS hown)
  have HAP := Lib.hid (apart_own (b := b) (G := G) hown HP.out.hl.hp.1.lt (fun k hk => (HP.out.hl.hp.1.glt k hk).1))
  have HRV := Lib.hid hrv
  obtain ⟨n, hn⟩ : ∃ n, n = rs.length := ⟨_, rfl⟩
  rw [← hn] at HRS HAP hrl ⊢
  have HN := Lib.hid hn
  clear hown hrv hb2 HP hn HA2
  have F0 := Lib.hid (collect_yes HP2.out.hl.hp 0 (by omega) (.slice ro n rc) rs HRS.out HAP.out (by rw [← HN.out]; omega) HRV.out)
  go_wp2_with fail
  refine F0.out.mono ?_
  rintro e w3 hr
  obtain ⟨b3, g3, G3, rfl, ha3, hb3, -, -⟩ := HP2.out.hl.gc hr
  obtain ⟨h3, h2, hi3, n1, n2, -⟩ := ha3
  have hgl : (gcR os 0 rs).length = n := by unfold gcR; rw [List.length_map, ← HN.out]
  rw [← HN.out]
  have HRS3 := Lib.hid (HRS.out.below hb3)
  have HEND := Lib.hid (fun x hx => gc_end h2.hp.2.2.1 h2.hp.2.1 0 HRV.out h3.hp.2.2.1 h3.hp.2.1 (x := x) hx)
  have HOB := Lib.hid (fun a ha => gcO_ob h2.hp.2.2.1 h2.hp.2.1 0 HRV.out (a := a) ha)
  have HGP := Lib.hid (fun a ha => gc_ptrs h2.hp.2.2.1 h2.hp.2.1 0 HRV.out (a := a) ha)
  have HPT := Lib.hid (fun a ha => pt_ptrs h2.hp.2.2.1 h2.hp.2.1 HRV.out (a := a) ha)
  have HOK := Lib.hid h2.hp.2.1
  have HCL := Lib.hid h2.hp.2.2.1
  have hrx : gcR os 0 rs = rs.map (pt os rs) := rfl
  rw [hrx] at hi3 hgl
  have HSB : Hid (Sb os rs rs []) := Sb.start HRV.out
  have H3 := Lib.hid h3
  have H2 := Lib.hid h2
  have HI3 : Hid (IsS w3 (.slice (some ⟨g3, 0, none⟩) n n) (rs.map (pt os rs))) := by rw [← hgl]; exact block_isS hi3
  have HRL := Lib.hid hgl
  clear hr h3 h2 hb3 HP2 HRS F0 hi3 n1 n2 hrx hgl HAP
  obtain ⟨U, hU⟩ : ∃ U, U = total os := ⟨_, rfl⟩
  have hU300 : U ≤ 300 := by rw [hU]; exact H2.out.hp.2.2.2.2
  have HU := Lib.hid hU
  clear hU
  have hA6 : Below w3.heap.size w3 (w3.alloc (.cells #[] 3)) := (Below.refl _ _).alloc (Nat.le_refl _) _
  have HE6 := Lib.hid (none_made3 (Nat.le_refl w3.heap.size))
  have HSR6 := Lib.hid (isS_srcA (HRS3.out.below hA6))
  rw [← HN.out] at HSR6
  have hsz6 : w3.heap.size ≤ (w3.alloc (.cells #[] 3)).heap.size := hA6.size
  have hn9 : 0 + n ≤ 1000000000 := by omega
  have HA6 := Lib.hid hA6
  clear hA6 HRS3
  have qnn : ((n : Int) != (n : Int)) = false := by simp
  go_wp2_with (first | (refine wpList_wantedR (by rfl) fun K hK => ?_; refine wp_appI (Operand.tmp 51) (Operand.tmp 52) rfl w3.heap.size (.slice (some ⟨w3.heap.size, 0, none⟩) 0 0) 0 [] rfl HE6.out (.slice ro n rc) rfl n _ HSR6.out hn9 hsz6 ?_; intro v7 w7 hown7 hg7 hv7; have HO7 := Lib.hid hown7; have HB7 := Lib.hid (HA6.out.grown hg7 hsz6 (fun k hk => Nat.le_of_eq (Option.some.inj hk))); clear hown7 hg7 hv7 HE6 HSR6; have hA8 : Below w7.heap.size w7 (w7.alloc (.cells #[] 3)) := (Below.refl _ _).alloc (Nat.le_refl _) _; have HE8 := Lib.hid (none_made3 HB7.out.size); have HSR8 := Lib.hid (isS_srcA ((HI3.out.below HB7.out).below hA8)); rw [HRL.out] at HSR8; have hsz8 : w3.heap.size ≤ (w7.alloc (.cells #[] 3)).heap.size := Nat.le_trans HB7.out.size hA8.size; have HA8 := Lib.hid hA8; clear hA8; refine hK _ _ ?_; clear hK K) | (refine wpList_wantedR (by rfl) fun K hK => ?_; refine wp_appI (Operand.tmp 54) (Operand.tmp 55) rfl w3.heap.size (.slice (some ⟨w7.heap.size, 0, none⟩) 0 0) 0 [] rfl HE8.out (.slice (some ⟨g3, 0, none⟩) n n) rfl n _ HSR8.out hn9 hsz8 ?_; intro v9 w9 hown9 hg9 hv9; have HO9 := Lib.hid hown9; have HG9 := Lib.hid hg9; have HV9 := Lib.hid hv9; clear hown9 hg9 hv9 HE8 HSR8; refine hK _ _ ?_; clear hK K))
  have HB8 : Hid (Below w3.heap.size w3 (w7.alloc (.cells #[] 3))) := HB7.out.trans (HA8.out.mono HB7.out.size)
  have HB9 : Hid (Below w3.heap.size w3 w9) := HB8.out.grown HG9.out HB8.out.size (fun k hk => by have h9 : w7.heap.size = k := Option.some.inj hk; have := HB7.out.size; omega)
  have H29 := Lib.hid (H2.out.below HB9.out)
  have H39 := Lib.hid (H3.out.below HB9.out)
  have F20 : Hid (Calls Try.prog 20 #[.pointer (some ⟨b, 0, none⟩)] w9 fun e w' => e = .returned (.int .i64 (U : Nat)) ∧ w9 = w') := by
    have := used_any H29.out.hp.1; rw [wds_length, ← HU.out] at this; exact this
  obtain ⟨U1, hU1d⟩ : ∃ U1, U1 = U + 1 := ⟨_, rfl⟩
  have hU1 : (U : Int) + 1 = (U1 : Int) := by omega
  have hUU : U < U1 := by omega
  have hU19 : U1 ≤ 301 := by omega
  clear hU1d
  have hmk := run_make_bools U1 (by omega) w9
  have hbs : BRw (w9.alloc (.cells (bvals (List.replicate U1 false)) 4)) w9.heap.size (List.replicate U1 false) := alloc_at w9 _
  have hbb : Below w9.heap.size w9 (w9.alloc (.cells (bvals (List.replicate U1 false)) 4)) := (Below.refl _ _).alloc (Nat.le_refl _) _
  generalize w9.alloc (.cells (bvals (List.replicate U1 false)) 4) = w10 at hmk hbs hbb
  have H0 : Hid (SamI os rs w3 U1 w9.heap.size v7 v9 (.int .i64 0) w10) := by
    have o7 := HO7.out
    have o9 := HO9.out
    rw [Nat.zero_add, List.nil_append] at o7 o9
    have l7 := fun k hk => (o7.lt k hk)
    have l9 := fun k hk => (o9.lt k hk)
    have p7 := own_fr (own_below o7 HA8.out) (Fr.grown HG9.out) (fun k hk e => by have := (l7 k hk).2; have h9 : w7.heap.size = k := Option.some.inj e; omega)
    have hap : Apt v7 v9 := fun k h1 h2 => by
      have a1 := (l7 k h1).2
      rcases HV9.out k h2 with e | e
      · have h9 : w7.heap.size = k := Option.some.inj e
        omega
      · have := HA8.out.size; omega
    exact ⟨0, n, rs, [], List.replicate U1 false, HN.out, Nat.zero_le _, rfl, HSB.out, ⟨own_below p7 hbb, own_below o9 hbb, hap, hbs, fun e => by have := (p7.lt _ e).2; omega, fun e => by have := (l9 _ e).2; omega, HB9.out.size, HB9.out.trans (hbb.mono HB9.out.size)⟩, by simp, SeenAt.start _⟩
  have HGS : Hid (w3.heap.size ≤ w9.heap.size) := HB9.out.size
  obtain ⟨gs, hgs⟩ : ∃ gs, gs = w9.heap.size := ⟨_, rfl⟩
  rw [← hgs] at hmk H0 HGS
  clear HO7 HO9 HG9 HV9 HB7 HB8 HA8 HA6 hbs hbb hsz6 hgs H29 H39 HB9 HI3
  go_wp2_with fail
  refine F20.out.mono ?_
  rintro e w11 ⟨rfl, rfl⟩
  clear F20
  go_wp2_with fail
  clear hmk hU1
  go_loopw [11, 12, 14] (fun qv qv2 iv wr => SamI os rs w3 U1 gs qv qv2 iv wr) (fun _ _ iv _ => 400 - (intOf iv).toNat)
  case atStart => exact H0.out
  case round =>
    clear H0
    obtain ⟨i, QL, Q, S, l, hQL, hiQ, rfl, hsb, hqs, hll, hse⟩ := hrel
    have HSB1 := Lib.hid hsb
    have HQS := Lib.hid hqs
    have HLL := Lib.hid hll
    have HSE := Lib.hid hse
    have HQL := Lib.hid hQL
    have H2w := Lib.hid (H2.out.below hqs.bel)
    have H3w := Lib.hid (H3.out.below hqs.bel)
    have HGW : Hid (gs < wr.heap.size) := hqs.br.lt
    have hqb := hsb.bound HOK.out
    rw [← HN.out, ← HU.out, ← hQL] at hqb
    obtain ⟨qo, qc, rfl⟩ := own_sform hqs.o1
    obtain ⟨q2o, q2c, rfl⟩ := own_sform hqs.o2
    clear hsb hqs hll hse hQL
    by_cases hiq : i < QL
    · have q1 : decide ((i : Int) < (QL : Int)) = true := decide_eq_true (by omega)
      have q2 : decide ((i : Int) < 3000) = true := decide_eq_true (by omega)
      have hiQ2 : i < Q.length := by rw [← HQL.out]; exact hiq
      have hiQ3 : i < (Q.map (pt os rs)).length := by rw [List.length_map]; exact hiQ2
      obtain ⟨g7, c7, e7, -, hg7, -, hgc7⟩ := own_at HQS.out.o1 (by omega)
      injection e7 with e7 e8 e9
      subst e7
      clear e8 e9
      obtain ⟨g8, c8, e7, -, hg8, -, hgc8⟩ := own_at HQS.out.o2 (by omega)
      injection e7 with e7 e8 e9
      subst e7
      clear e8 e9
      have cq := hgc7 i hiQ2
      have cp := hgc8 i hiQ3
      rw [List.getElem_map] at cp
      obtain ⟨q, hq⟩ : ∃ q, q = Q[i] := ⟨_, rfl⟩
      rw [← hq] at cq cp
      have hqv : Vd os q := HSB1.out.qv q (by rw [hq]; exact List.getElem_mem _)
      have hqd : endO os q ∈ allD os 0 rs := HSB1.out.qd q (by rw [hq]; exact List.getElem_mem _)
      have hqp := vd_lt hqv
      rw [← HU.out] at hqp
      have HQV := Lib.hid hqv
      have HQD := Lib.hid hqd
      obtain ⟨bb, hbb⟩ : ∃ bb, bb = pt os rs q := ⟨_, rfl⟩
      rw [← hbb] at cp
      have HBB := Lib.hid hbb
      have hbv : Vd (gcO os 0 rs) bb := by rw [hbb]; exact ⟨_, HOB.out _ hqd⟩
      have HBV := Lib.hid hbv
      have hbp := vd_lt hbv
      have htx : total (gcO os 0 rs) ≤ 300 := H3w.out.hp.2.2.2.2
      have F25 := Lib.hid (fun W (hb : Below wr.heap.size wr W) => follow_o (H2w.out.below hb).hp q (by omega) (by omega))
      have F25b := Lib.hid (fun W (hb : Below wr.heap.size wr W) => follow_o (H3w.out.below hb).hp bb (by omega) (by omega))
      have HC15 : Hid (∀ W, Below wr.heap.size wr W → W.cell? ⟨g7, i, none⟩ = some (.int .i64 q) ∧ W.cell? ⟨g8, i, none⟩ = some (.int .i64 bb)) := fun W hb => ⟨(hb.cell (p := ⟨g7, i, none⟩) hg7).trans cq, (hb.cell (p := ⟨g8, i, none⟩) hg8).trans cp⟩
      clear hgc7 hgc8 hq hbb hiQ3 hbv cq cp hqv hqd
      go_wp2_with fail
      have BX : Hid (Below wr.heap.size wr wr.drew) := (Below.refl _ _).drew
      refine wp_region_noPanic ?_
      refine wp_region_held_drew (S := fun W => W.cell? ⟨g7, i, none⟩ = some (.int .i64 q) ∧ W.cell? ⟨g8, i, none⟩ = some (.int .i64 bb)) (by kernel_rfl) (HC15.out _ BX.out) (fun hHeld => ?_)
      generalize wr.drew = X at BX hHeld ⊢
      refine wpAnyH_take (i := 0) (v := ?v0) rfl (by kernel_rfl) (by kernel_rfl) (by kernel_rfl) (fun _ _ _ h => h) (Or.inl ⟨rfl, fun w' hw' => ?h0⟩) hHeld ?r0
      case h0 =>
        (go_simp; try omega)
        try with_reducible rfl
      simp only [List.getElem_toArray, List.getElem_cons_succ, List.getElem_cons_zero, Act.put, List.setIfInBounds_toArray, List.set_cons_zero, List.set_cons_succ]
      refine wpAnyH_take (i := 1) (v := ?v1) rfl (by kernel_rfl) (by kernel_rfl) (by kernel_rfl) (fun _ _ _ h => h) (Or.inl ⟨rfl, fun w' hw' => ?h1⟩) hHeld ?r1
      case h1 =>
        (go_simp; try omega)
        try with_reducible rfl
      simp only [List.getElem_toArray, List.getElem_cons_succ, List.getElem_cons_zero, Act.put, List.setIfInBounds_toArray, List.set_cons_zero, List.set_cons_succ]
      refine wpAnyH_take (i := 2) (v := ?v2) rfl (by kernel_rfl) (by kernel_rfl) (by kernel_rfl) (fun _ _ _ h => h) (Or.inl ⟨rfl, fun w' hw' => ?h2⟩) hHeld ?r2
      case h2 =>
        (go_simp; try omega)
        try with_reducible rfl
      simp only [List.getElem_toArray, List.getElem_cons_succ, List.getElem_cons_zero, Act.put, List.setIfInBounds_toArray, List.set_cons_zero, List.set_cons_succ]
      refine wpAnyH_take (i := 3) (v := Value.pointer (some ⟨g7, i, none⟩)) rfl (by kernel_rfl) (by kernel_rfl) (by kernel_rfl) (fun _ _ _ h => h) (Or.inl ⟨rfl, fun w' hw' => ?_⟩) hHeld ?_
      · (go_simp; try omega)
      simp only [List.getElem_toArray, List.getElem_cons_succ, List.getElem_cons_zero, Act.put, List.setIfInBounds_toArray, List.set_cons_zero, List.set_cons_succ]
      refine wpAnyH_take (i := 4) (v := ?v4) rfl (by kernel_rfl) (by kernel_rfl) (by kernel_rfl) (fun _ _ _ h => h) (Or.inl ⟨rfl, fun w' hw' => ?h4⟩) hHeld ?r4
      case h4 =>
        (obtain ⟨d0, _⟩ := hw'; go_simp)
        try with_reducible rfl
      simp only [List.getElem_toArray, List.getElem_cons_succ, List.getElem_cons_zero, Act.put, List.setIfInBounds_toArray, List.set_cons_zero, List.set_cons_succ]
      refine wpAnyH_take (i := 6) (v := ?v5) rfl (by kernel_rfl) (by kernel_rfl) (by kernel_rfl) (fun _ _ _ h => h) (Or.inl ⟨rfl, fun w' hw' => ?h5⟩) hHeld ?r5
      case h5 =>
        (go_simp; try omega)
        try with_reducible rfl
      simp only [List.getElem_toArray, List.getElem_cons_succ, List.getElem_cons_zero, Act.put, List.setIfInBounds_toArray, List.set_cons_zero, List.set_cons_succ]
      refine wpAnyH_take (i := 7) (v := ?v6) rfl (by kernel_rfl) (by kernel_rfl) (by kernel_rfl) (fun _ _ _ h => h) (Or.inl ⟨rfl, fun w' hw' => ?h6⟩) hHeld ?r6
      case h6 =>
        (go_simp; try omega)
        try with_reducible rfl
      simp only [List.getElem_toArray, List.getElem_cons_succ, List.getElem_cons_zero, Act.put, List.setIfInBounds_toArray, List.set_cons_zero, List.set_cons_succ]
      refine wpAnyH_take (i := 8) (v := Value.pointer (some ⟨g8, i, none⟩)) rfl (by kernel_rfl) (by kernel_rfl) (by kernel_rfl) (fun _ _ _ h => h) (Or.inl ⟨rfl, fun w' hw' => ?_⟩) hHeld ?_
      · (go_simp; try omega)
      simp only [List.getElem_toArray, List.getElem_cons_succ, List.getElem_cons_zero, Act.put, List.setIfInBounds_toArray, List.set_cons_zero, List.set_cons_succ]
      refine wpAnyH_take (i := 9) (v := ?v8) rfl (by kernel_rfl) (by kernel_rfl) (by kernel_rfl) (fun _ _ _ h => h) (Or.inl ⟨rfl, fun w' hw' => ?h8⟩) hHeld ?r8
      case h8 =>
        (obtain ⟨_, d0⟩ := hw'; go_simp)
        try with_reducible rfl
      simp only [List.getElem_toArray, List.getElem_cons_succ, List.getElem_cons_zero, Act.put, List.setIfInBounds_toArray, List.set_cons_zero, List.set_cons_succ]
      refine wpAnyH_ready (rs := [5]) (by kernel_rfl) (by simp) ?_
      refine (AllReadyH.cons rfl (fun K hK => ?_) AllReadyH.nil)
      go_simp
      refine (F25.out X BX.out).mono ?_
      rintro e w12 ⟨rfl, hb12⟩
      have B12 := Lib.hid (BX.out.trans (hb12.mono BX.out.size))
      clear hb12
      refine hK.out _ _ (HC15.out _ B12.out) (fun hHeld => ?_)
      clear hK K
      try simp only [List.getElem_toArray, List.getElem_cons_succ, List.getElem_cons_zero, Act.put, List.setIfInBounds_toArray, List.set_cons_zero, List.set_cons_succ]
      refine wpAnyH_take (i := 10) (v := ?v9) rfl (by kernel_rfl) (by kernel_rfl) (by kernel_rfl) (fun _ _ _ h => h) (Or.inl ⟨rfl, fun w' hw' => ?h9⟩) hHeld ?r9
      case h9 =>
        (go_simp; try omega)
        try with_reducible rfl
      simp only [List.getElem_toArray, List.getElem_cons_succ, List.getElem_cons_zero, Act.put, List.setIfInBounds_toArray, List.set_cons_zero, List.set_cons_succ]
      refine wpAnyH_take (i := 11) (v := ?v10) rfl (by kernel_rfl) (by kernel_rfl) (by kernel_rfl) (fun _ _ _ h => h) (Or.inl ⟨rfl, fun w' hw' => ?h10⟩) hHeld ?r10
      case h10 =>
        (go_simp; try omega)
        try with_reducible rfl
      simp only [List.getElem_toArray, List.getElem_cons_succ, List.getElem_cons_zero, Act.put, List.setIfInBounds_toArray, List.set_cons_zero, List.set_cons_succ]
      refine wpAnyH_done (by kernel_rfl) ?_ _
      refine NoPanic.normal ?_
      clear hHeld
      clear BX
      by_cases hf : folOf os q < 0
      · have q3 : decide (folOf os q < 0) = true := decide_eq_true hf
        obtain ⟨he, ht⟩ := fol_neg HQV.out hf
        have hfb : folOf (gcO os 0 rs) bb = -1 := gc_follow HBV.out (HEND.out _ HBV.out) (by
          rw [HBB.out]
          unfold pt
          rw [(HGP.out _ HQD.out).2.2, he]; exact ht)
        rw [hfb] at F25b
        have HREL : Hid (∀ W, Below wr.heap.size wr W → SamI os rs w3 U1 gs (.slice (some ⟨g7, 0, none⟩) QL qc) (.slice (some ⟨g8, 0, none⟩) QL q2c) (.int .i64 ((i : Int) + 1)) W) := fun W hb => ⟨i + 1, QL, Q, S, l, HQL.out, hiq, by go_num, HSB1.out, HQS.out.below hb, HLL.out, HSE.out⟩
        clear hf he ht hfb F25 HC15 HQS
        generalize folOf os q = fq at q3 ⊢
        go_wp2_with fail
        refine (F25b.out w12 B12.out).mono ?_
        rintro e w13 ⟨rfl, hb13⟩
        have HR := Lib.hid (HREL.out w13 (B12.out.trans (hb13.mono B12.out.size)))
        clear hb13 F25b HREL
        go_wp2_with fail
        go_roundw
        case rel => exact HR.out
        case measure => simp [intOf]; omega
      · have q3 : decide (folOf os q < 0) = false := decide_eq_false hf
        have hfe := fol_pos hf
        have hev := endO_valid HQV.out
        have hep := vd_lt hev
        rw [← HU.out] at hep
        rw [hfe] at q3 ⊢
        obtain ⟨an, han⟩ : ∃ an : Nat, endO os q = an := ⟨(endO os q).toNat, by omega⟩
        have haD := HQD.out
        have hbe : bb = ph os 0 rs an := by rw [HBB.out, ← han]; rfl
        rw [han] at q3 hep haD ⊢
        have haU : an < U := by omega
        obtain ⟨g1, g2, g3⟩ := HGP.out _ haD
        have hg1 : ptrsOf (gcO os 0 rs) bb = (ptrsOf os an).map (pt os rs) := by rw [hbe]; exact HPT.out _ haD
        rw [← hbe] at g2 g3
        have FP := Lib.hid (fun W (hb : Below wr.heap.size wr W) => ptrs_o (H2w.out.below hb).hp (an : Int) (by omega) (by omega))
        have FPb := Lib.hid (fun W (hb : Below wr.heap.size wr W) => ptrs_o (H3w.out.below hb).hp bb (by omega) (by omega))
        have FN := Lib.hid (fun W (hb : Below wr.heap.size wr W) => nums_o (H2w.out.below hb).hp (an : Int) (by omega) (by omega))
        have FNb := Lib.hid (fun W (hb : Below wr.heap.size wr W) => nums_o (H3w.out.below hb).hp bb (by omega) (by omega))
        have FT := Lib.hid (fun W (hb : Below wr.heap.size wr W) => tagm_any (H2w.out.below hb).hp (an : Int) (by omega) (by omega))
        have FTb := Lib.hid (fun W (hb : Below wr.heap.size wr W) => tagm_any (H3w.out.below hb).hp bb (by omega) (by omega))
        rw [hg1] at FPb
        rw [g2] at FNb
        rw [g3] at FTb
        have hpl60 : (ptrsOf os an).length ≤ 255 := by rw [ptrsOf_len HOK.out]; exact (hdo_low HOK.out an).2.1
        have hnl60 : (numsOf os an).length ≤ 1000000 := by
          rw [numsOf_len HOK.out]
          have := (hdo_low HOK.out an).2.2.1
          omega
        have qt : (((hdo os an).t : Int) != ((hdo os an).t : Int)) = false := by simp
        generalize (hdo os an).t = tt at FT FTb qt
        obtain ⟨PS, hPS⟩ : ∃ PS, PS = ptrsOf os an := ⟨_, rfl⟩
        rw [← hPS] at FP FPb hpl60
        have HPS := Lib.hid hPS
        generalize numsOf os an = ns at FN FNb hnl60
        obtain ⟨np, hnp⟩ : ∃ np, np = PS.length := ⟨_, rfl⟩
        rw [← hnp] at hpl60
        have HNP := Lib.hid hnp
        have HAD := Lib.hid haD
        have HQ12 := Lib.hid (HQS.out.below B12.out)
        have haU1 : (an : Int) < (U1 : Int) := by omega
        obtain ⟨v, hv⟩ : ∃ v, l[an]? = some v := ⟨_, List.getElem?_eq_getElem (by rw [HLL.out]; omega)⟩
        have HV := Lib.hid hv
        have HVS := Lib.hid (HSE.out an v hv)
        clear hf hfe hev hep han hbe g1 g2 g3 hg1 haD hPS hnp hv F25 F25b HC15 HQS
        go_wp2_with fail
        refine (FP.out w12 B12.out).mono ?_
        rintro e w13 hr
        obtain ⟨po, pc, rfl, hownp, hb13⟩ := hr.form
        have B13 := Lib.hid (B12.out.trans (hb13.mono B12.out.size))
        have HQ13 := Lib.hid (HQ12.out.below hb13)
        have HP13 := Lib.hid hownp
        have HZ13 : Hid (wr.heap.size ≤ w12.heap.size) := B12.out.size
        rw [← HNP.out] at HP13 ⊢
        clear hr hownp hb13 HQ12
        go_wp2_with fail
        refine (FPb.out w13 B13.out).mono ?_
        rintro e w14 hr
        obtain ⟨ro2, rc2, rfl, hownr, hb14⟩ := hr.form
        have B14 := Lib.hid (B13.out.trans (hb14.mono B13.out.size))
        have HQ14 := Lib.hid (HQ13.out.below hb14)
        have HP14 := Lib.hid (own_below HP13.out hb14)
        have HR14 := Lib.hid hownr
        have HZ14 : Hid (wr.heap.size ≤ w13.heap.size) := B13.out.size
        rw [List.length_map, ← HNP.out] at HR14 ⊢
        clear hr hownr hb14 HQ13 HP13
        go_wp2_with fail
        refine (FT.out w14 B14.out).mono ?_
        rintro e w15 ⟨rfl, hb⟩
        have B15 := Lib.hid (B14.out.trans (hb.mono B14.out.size))
        have HQ15 := Lib.hid (HQ14.out.below hb)
        have HP15 := Lib.hid (own_below HP14.out hb)
        have HR15 := Lib.hid (own_below HR14.out hb)
        clear hb HQ14 HP14 HR14
        go_wp2_with fail
        refine (FTb.out w15 B15.out).mono ?_
        rintro e w16 ⟨rfl, hb⟩
        have B16 := Lib.hid (B15.out.trans (hb.mono B15.out.size))
        have HQ16 := Lib.hid (HQ15.out.below hb)
        have HP16 := Lib.hid (own_below HP15.out hb)
        have HR16 := Lib.hid (own_below HR15.out hb)
        clear hb HQ15 HP15 HR15
        go_wp2_with fail
        refine (FN.out w16 B16.out).mono ?_
        rintro e w17 hr
        obtain ⟨no, nc, rfl, hownn, hb⟩ := hr.form
        have B17 := Lib.hid (B16.out.trans (hb.mono B16.out.size))
        have HQ17 := Lib.hid (HQ16.out.below hb)
        have HP17 := Lib.hid (own_below HP16.out hb)
        have HR17 := Lib.hid (own_below HR16.out hb)
        have HI17 := Lib.hid (own_isS hownn)
        clear hr hownn hb HQ16 HP16 HR16
        go_wp2_with fail
        refine (FNb.out w17 B17.out).mono ?_
        rintro e w18 hr
        obtain ⟨mo, mc, rfl, hownm, hb⟩ := hr.form
        have B18 := Lib.hid (B17.out.trans (hb.mono B17.out.size))
        have HQ18 := Lib.hid (HQ17.out.below hb)
        have HP18 := Lib.hid (own_below HP17.out hb)
        have HR18 := Lib.hid (own_below HR17.out hb)
        have F18 := Lib.hid (ints_eq (HI17.out.below hb) (own_isS hownm) hnl60)
        clear hr hownm hb HQ17 HP17 HR17 HI17
        have qpp : ((np : Int) != (np : Int)) = false := by simp
        go_wp2_with fail
        refine F18.out.mono ?_
        rintro e w19 ⟨rfl, hb⟩
        have B19 := Lib.hid (B18.out.trans (hb.mono B18.out.size))
        have HQ19 := Lib.hid (HQ18.out.below hb)
        have HP19 := Lib.hid (own_below HP18.out hb)
        have HR19 := Lib.hid (own_below HR18.out hb)
        clear hb HQ18 HP18 HR18 F18
        have cs := HQ19.out.br.cell? HV.out
        have fs := HQ19.out.br.frz an
        cases v with
        | true =>
          have HREL : Hid (SamI os rs w3 U1 gs (.slice (some ⟨g7, 0, none⟩) QL qc) (.slice (some ⟨g8, 0, none⟩) QL q2c) (.int .i64 ((i : Int) + 1)) w19) := ⟨i + 1, QL, Q, S, l, HQL.out, hiq, by go_num, HSB1.out, HQ19.out, HLL.out, HSE.out⟩
          clear HQ19 HP19 HR19
          go_wp2_with fail
          go_roundw
          case rel => exact HREL.out
          case measure => simp [intOf]; omega
        | false =>
          have hns : (an : Int) ∉ S := fun h => by have := HVS.out.2 h; cases this
          have HSM := Lib.hid (HSE.out.more (a := an) (by rw [HLL.out]; omega))
          have HSBM := Lib.hid (HSB1.out.more HCL.out HOK.out HRV.out HAD.out hns)
          have HQ20 := Lib.hid (HQ19.out.seen an)
          have hfs : Fr (fun x => x = gs) w19 (w19.setCell ⟨gs, an, none⟩ (.bool true)) := Fr.setCell (F := fun x => x = gs) (p := ⟨gs, an, none⟩) (Fr.refl _ _) rfl _
          have hgsw : gs < wr.heap.size := by
            have h1 := HQ19.out.br.lt
            exact HGW.out
          have HP20 := Lib.hid (own_fr HP19.out hfs (fun k hk e => by have := (HP19.out.lt k hk).1; have := HZ13.out; omega))
          have HR20 := Lib.hid (own_fr HR19.out hfs (fun k hk e => by have := (HR19.out.lt k hk).1; have := HZ14.out; omega))
          have HS20 := Lib.hid (own_srcA HP20.out)
          have HAPR : Hid (Apt (.slice (some ⟨g7, 0, none⟩) QL qc) (.slice ro2 np rc2)) := fun k h1 h2 => by
            have a1 := (HR20.out.lt k h2).1
            have a2 := HZ14.out
            have a3 : g7 = k := Option.some.inj h1
            omega
          have hsz20 := HQ20.out.bel.size
          have hql9 : QL + np ≤ 1000000000 := by omega
          have hzz : (w19.setCell ⟨gs, an, none⟩ (.bool true)).heap.size = w19.heap.size := by simp [World.setCell]
          obtain ⟨RM, hRM⟩ : ∃ RM, RM = Q.map (Value.int .i64) := ⟨_, rfl⟩
          obtain ⟨RM2, hRM2⟩ : ∃ RM2, RM2 = (Q.map (pt os rs)).map (Value.int .i64) := ⟨_, rfl⟩
          obtain ⟨PM, hPM⟩ : ∃ PM, PM = PS.map (Value.int .i64) := ⟨_, rfl⟩
          obtain ⟨PM2, hPM2⟩ : ∃ PM2, PM2 = (PS.map (pt os rs)).map (Value.int .i64) := ⟨_, rfl⟩
          have HO1 : Hid ((w19.setCell ⟨gs, an, none⟩ (.bool true)).ownsRow w3.heap.size 3 1 (.slice (some ⟨g7, 0, none⟩) QL qc) QL RM) := by rw [hRM]; exact HQ20.out.o1
          rw [← hPM] at HS20
          have HR20' : Hid ((w19.setCell ⟨gs, an, none⟩ (.bool true)).ownsRow w13.heap.size 3 1 (.slice ro2 np rc2) np PM2) := by rw [hPM2]; exact HR20.out
          have HRM := Lib.hid hRM
          have HRM2 := Lib.hid hRM2
          have HPM := Lib.hid hPM
          have HPM2 := Lib.hid hPM2
          have HSRC2 : Hid (∀ (W : World), W.ownsRow w13.heap.size 3 1 (.slice ro2 np rc2) np PM2 → SrcA W 1 (.slice ro2 np rc2) np PM2) := fun W hW => by
            have h1 := hW
            rw [HPM2.out] at h1 ⊢
            exact own_srcA h1
          clear hRM hRM2 hPM hPM2 hfs hns hzz HP19 HR19 HQ19 HP20 HR20 HSB1 HVS
          go_wp2_with (first | (refine wpList_wantedR (by rfl) fun K hK => ?_; refine wp_appI (Operand.tmp 125) (Operand.tmp 126) rfl w3.heap.size (.slice (some ⟨g7, 0, none⟩) QL qc) QL RM rfl HO1.out (.slice po np pc) rfl np PM HS20.out hql9 hsz20 ?_; intro v21 w21 o21 g21 k21; have HO21 := Lib.hid o21; have HG21 := Lib.hid g21; have HK21 := Lib.hid k21; have HO2 : Hid (w21.ownsRow w3.heap.size 3 1 (.slice (some ⟨g8, 0, none⟩) QL q2c) QL RM2) := (by show _; rw [HRM2.out]; exact own_grown HQ20.out.o2 g21 HQ20.out.ap); have HS21 := Lib.hid (HSRC2.out w21 (own_grown HR20'.out g21 HAPR.out)); have hsz21 : w3.heap.size ≤ w21.heap.size := Nat.le_trans hsz20 g21.size; clear o21 g21 k21 HO1 HS20; refine hK _ _ ?_; clear hK K) | (refine wpList_wantedR (by rfl) fun K hK => ?_; refine wp_appI (Operand.tmp 128) (Operand.tmp 129) rfl w3.heap.size (.slice (some ⟨g8, 0, none⟩) QL q2c) QL RM2 rfl HO2.out (.slice ro2 np rc2) rfl np PM2 HS21.out hql9 hsz21 ?_; intro v22 w22 o22 g22 k22; have HO22 := Lib.hid o22; have HG22 := Lib.hid g22; have HK22 := Lib.hid k22; clear o22 g22 k22 HO2 HS21; refine hK _ _ ?_; clear hK K))
          have HREL : Hid (SamI os rs w3 U1 gs v21 v22 (.int .i64 ((i : Int) + 1)) w22) := by
            have o21 := HO21.out
            have o22 := HO22.out
            rw [HRM.out, HPM.out] at o21
            rw [HRM2.out, HPM2.out] at o22
            have hq := HQ20.out.app o21 HG21.out HK21.out o22 HG22.out HK22.out
            rw [← List.map_append] at hq
            have hsbm := HSBM.out
            rw [← HPS.out] at hsbm
            exact ⟨i + 1, QL + np, Q ++ PS, S ++ [(an : Int)], l.set an true, by rw [List.length_append, ← HQL.out, ← HNP.out], by omega, by go_num, hsbm, hq, by rw [List.length_set]; exact HLL.out, HSM.out⟩
          clear HO21 HG21 HK21 HO22 HG22 HK22 HQ20 HR20' HSM HSBM cs fs
          go_roundw
          case rel => exact HREL.out
          case measure => simp [intOf]; omega
    · have q1 : decide ((i : Int) < (QL : Int)) = false := decide_eq_false (by omega)
      have HF := Lib.hid H2w.out.bel
      clear HQS
      go_wp2_with fail
      go_ret
      exact ⟨rfl, HF.out⟩
end Go.Proofs.Ytjecjlnkpbbanaa
