/- GcReach, walked. -/
import Derived.Test.YtjecjlnkpbbanaaL23
import Derived.Test.YtjecjlnkpbbanaaG6
import Derived.Test.YtjecjlnkpbbanaaZB
namespace Go.Proofs.Ytjecjlnkpbbanaa
open Go Go.RowKit
set_option linter.unusedVariables false
set_option linter.unusedSimpArgs false
def ReI (ox rx : List Int → Prop) : Prop := True
def RcI (ox : List Ob) (rx : List Int) (U1 gs : Nat) (w5 : World) (qv iv : Value) (wr : World) : Prop :=
  ∃ (i : Nat) (Q S : List Int) (l : List Bool), i ≤ Q.length ∧ iv = .int .i64 (i : Int) ∧ Bf ox rx Q S i ∧ wr.ownsRow w5.heap.size 3 1 qv Q.length (Q.map (Value.int .i64)) ∧ BRw wr gs l ∧ l.length = U1 ∧ SeenAt l S ∧ Fr (fun x => x = gs) w5 wr
def RoI (W : World) (n : Nat) (iv : Value) (wr : World) : Prop := ∃ j : Nat, j ≤ n ∧ iv = .int .i64 (j : Int) ∧ Below W.heap.size W wr
set_option maxHeartbeats 16000000 in
set_option maxRecDepth 100000 in
theorem reach_walk (a : Option Addr) (len cap : Nat) (zs : List Int) (a2 : Option Addr) (len2 cap2 : Nat) (zs2 : List Int) (deep : Int) (w : World) (hA : IsRow .i64 w a len cap zs) (hA2 : IsRow .i64 w a2 len2 cap2 zs2) (hd : I64 deep) :
    Calls Try.prog 5 #[.slice a len cap, .slice a2 len2 cap2, .int .i64 deep] w (RetV (.bool true) w) := by
  have HA := Lib.hid hA.arg
  have HA2 := Lib.hid hA2.arg
  clear hA hA2 zs zs2
  go_enter Try.func5, Try.ntmps5
  go_wp2_with fail
  refine (known_any w).mono ?_
  rintro e wk ⟨rfl, hbk⟩
  have HBK := Lib.hid hbk
  clear hbk
  go_wp2_with fail
  refine (both_any a len cap wk (HA.out.below HBK.out)).mono ?_
  rintro e w1 ⟨b, x, G, C, qs, os, rfl, hp⟩
  have HP := Lib.hid (hp.base HBK.out)
  clear hp HA
  go_wp2_with fail
  refine (roots_any HP.out.rh a2 len2 cap2 (HA2.out.below HP.out.hl.bel)).mono ?_
  rintro e w2 ⟨ro, rc, rs, rfl, hown, hrl, hrv, hb2⟩
  have HP2 := Lib.hid (HP.out.below hb2)
  have HRS := Lib.hid (own_isS hown)
  have HAP := Lib.hid (apart_own (b := b) (G := G) hown HP.out.hl.hp.1.lt (fun k hk => (HP.out.hl.hp.1.glt k hk).1))
  have HRV := Lib.hid hrv
  obtain ⟨n, hn⟩ : ∃ n, n = rs.length := ⟨_, rfl⟩
  rw [← hn] at HRS HAP hrl ⊢
  have HN := Lib.hid hn
  clear hown hrv hb2 HP hn HA2
  obtain ⟨d, hd21, -, F⟩ := within_at14 deep 21 hd (by omega) (by omega) w2
  have FW := Lib.hid F
  have F0 := Lib.hid (collect_yes HP2.out.hl.hp d (by omega) (.slice ro n rc) rs HRS.out HAP.out (by rw [← HN.out]; omega) HRV.out)
  clear F hd
  go_wp2_with fail
  refine FW.out.mono ?_
  rintro e w3 ⟨rfl, rfl⟩
  clear FW
  go_wp2_with fail
  refine F0.out.mono ?_
  rintro e w3 hr
  obtain ⟨b3, g3, G3, rfl, ha3, hb3, -, -⟩ := HP2.out.hl.gc hr
  obtain ⟨h3, h2, hi3, n1, n2, -⟩ := ha3
  have hgl : (gcR os d rs).length = n := by unfold gcR; rw [List.length_map, ← HN.out]
  rw [← HN.out]
  have HREACH := Lib.hid (fun Q S i (h : Bf (gcO os d rs) (gcR os d rs) Q S i) (hi : Q.length ≤ i) => gc_reach h2.hp.2.2.1 h2.hp.2.1 d HRV.out h hi)
  have HEND := Lib.hid (fun x hx => gc_end h2.hp.2.2.1 h2.hp.2.1 d HRV.out h3.hp.2.2.1 h3.hp.2.1 (x := x) hx)
  have hlv : ∀ r ∈ gcR os d rs, Vd (gcO os d rs) r := by
    intro r hr
    obtain ⟨p, hp, rfl⟩ := List.mem_map.1 hr
    exact ⟨_, gcO_ob h2.hp.2.2.1 h2.hp.2.1 d HRV.out (allD_roots d p hp)⟩
  obtain ⟨ox, hox⟩ : ∃ ox, ox = gcO os d rs := ⟨_, rfl⟩
  obtain ⟨rx, hrx⟩ : ∃ rx, rx = gcR os d rs := ⟨_, rfl⟩
  rw [← hox] at h3 hlv HREACH HEND
  rw [← hrx] at hi3 hlv hgl HREACH
  have HBF : Hid (Bf ox rx rx [] 0) := Bf.start hlv
  have H3 := Lib.hid h3
  have H2 := Lib.hid h2
  have HI3 : Hid (IsS w3 (.slice (some ⟨g3, 0, none⟩) n n) rx) := by rw [← hgl]; exact block_isS hi3
  have HRL := Lib.hid hgl
  have HGU := Lib.hid hi3.lt
  clear hr h3 h2 hb3 HP2 HRS F0 hi3 n1 n2 hox hrx hlv hgl HAP
  obtain ⟨U, hU⟩ : ∃ U, U = total ox := ⟨_, rfl⟩
  have hU300 : U ≤ 300 := by rw [hU]; exact H3.out.hp.2.2.2.2
  have HU := Lib.hid hU
  have hol := total_len ox
  clear hU
  go_wp2_with fail
  refine (objects_o H3.out.hp).mono ?_
  rintro e w4 hr
  obtain ⟨oo, oc, rfl, hown, hb4⟩ := hr.form
  have HO4 := Lib.hid hown
  have H34 := Lib.hid (H3.out.below hb4)
  have H24 := Lib.hid (H2.out.below hb4)
  have HI4 := Lib.hid (HI3.out.below hb4)
  have hg4 : Hid (g3 < w4.heap.size) := by have h1 := HGU.out; have h2 := hb4.size; show _ < _; omega
  clear hr hown hb4 H3 H2 HI3 HGU
  obtain ⟨N, hN⟩ : ∃ N, N = (adrs ox).length := ⟨_, rfl⟩
  rw [← hN] at HO4 ⊢
  have HNN := Lib.hid hN
  have hN9 : N ≤ 300 := by rw [hN, adrs_len, ]; have := HU.out; omega
  clear hN
  have F20 : Hid (Calls Try.prog 20 #[.pointer (some ⟨b3, 0, none⟩)] w4 fun e w' => e = .returned (.int .i64 (U : Nat)) ∧ w4 = w') := by
    have := used_any H34.out.hp.1; rw [wds_length, ← HU.out] at this; exact this
  obtain ⟨U1, hU1d⟩ : ∃ U1, U1 = U + 1 := ⟨_, rfl⟩
  have hU1 : (U : Int) + 1 = (U1 : Int) := by omega
  have hUU : U < U1 := by omega
  have hU19 : U1 ≤ 301 := by omega
  clear hU1d
  have hmk := run_make_bools U1 (by omega) w4
  have hbs : BRw (w4.alloc (.cells (bvals (List.replicate U1 false)) 4)) w4.heap.size (List.replicate U1 false) := alloc_at w4 _
  have hbb : Below w4.heap.size w4 (w4.alloc (.cells (bvals (List.replicate U1 false)) 4)) := (Below.refl _ _).alloc (Nat.le_refl _) _
  have hsz5 : w4.heap.size < (w4.alloc (.cells (bvals (List.replicate U1 false)) 4)).heap.size := by simp
  generalize w4.alloc (.cells (bvals (List.replicate U1 false)) 4) = w5 at hmk hbs hbb hsz5
  obtain ⟨gs, hgs⟩ : ∃ gs, gs = w4.heap.size := ⟨_, rfl⟩
  have H35 := Lib.hid (H34.out.below hbb)
  have H25 := Lib.hid (H24.out.below hbb)
  have HO5 := Lib.hid (own_below HO4.out hbb)
  have HI5 := Lib.hid (HI4.out.below hbb)
  have HNE : Hid (b3 ≠ gs ∧ b ≠ gs ∧ (∀ k, G3 = some k → k ≠ gs) ∧ (∀ k, G = some k → k ≠ gs) ∧ w.heap.size ≤ gs ∧ (∀ k, Value.ownBlock (.slice oo N oc) = some k → k ≠ gs)) :=
    ⟨by have := H34.out.hp.1.lt; omega, by have := H24.out.hp.1.lt; omega, fun k hk => by have := (H34.out.hp.1.glt k hk).1; omega, fun k hk => by have := (H24.out.hp.1.glt k hk).1; omega, by have := H34.out.bel.size; omega, fun k hk => by have := (HO4.out.lt k hk).2; omega⟩
  rw [← hgs] at hmk hbs hsz5
  have HBS := Lib.hid hbs
  have HG5 := Lib.hid hsz5
  clear hbs hbb hgs H34 H24 HO4 HI4 hg4 hsz5
  have HK := Lib.hid (fun (W : World) (hf : Fr (fun x => x = gs) w5 W) => (⟨H35.out.fr hf HNE.out.1 (fun k hk => HNE.out.2.2.1 k hk) (fun k hk e => by have := HNE.out.2.2.2.2.1; omega), H25.out.fr hf HNE.out.2.1 (fun k hk => HNE.out.2.2.2.1 k hk) (fun k hk e => by have := HNE.out.2.2.2.2.1; omega), own_fr HO5.out hf (fun k hk => HNE.out.2.2.2.2.2 k hk)⟩ : HL w W b3 G3 ox 300 ∧ HL w W b G os 300 ∧ W.ownsRow w3.heap.size 3 1 (.slice oo N oc) N ((adrs ox).map (Value.int .i64))))
  have hA6 : Below w5.heap.size w5 (w5.alloc (.cells #[] 3)) := (Below.refl _ _).alloc (Nat.le_refl _) _
  have HE6 := Lib.hid (none_made3 (Nat.le_refl w5.heap.size))
  have HSR6 := Lib.hid (isS_srcA (HI5.out.below hA6))
  rw [HRL.out] at HSR6
  have hsz6 : w5.heap.size ≤ (w5.alloc (.cells #[] 3)).heap.size := hA6.size
  have hn9 : 0 + n ≤ 1000000000 := by omega
  have HA6 := Lib.hid hA6
  clear hA6 HI5 HO5 H35 H25
  go_wp2_with fail
  refine F20.out.mono ?_
  rintro e w6 ⟨rfl, rfl⟩
  clear F20
  go_wp2_with (refine wpList_wantedR (by rfl) fun K hK => ?_; refine wp_appI (Operand.tmp 50) (Operand.tmp 51) rfl w5.heap.size (.slice (some ⟨w5.heap.size, 0, none⟩) 0 0) 0 [] rfl HE6.out (.slice (some ⟨g3, 0, none⟩) n n) rfl n _ HSR6.out hn9 hsz6 ?_; intro v9 w9 hown9 hg9 hv9; have HO9 := Lib.hid hown9; have HB9 := Lib.hid (HA6.out.grown hg9 hsz6 (fun k hk => Nat.le_of_eq (Option.some.inj hk))); clear hown9 hg9 hv9 HE6 HSR6; refine hK _ _ ?_; clear hK K)
  have H0 : Hid (RcI ox rx U1 gs w5 v9 (.int .i64 0) w9) := by
    have h9 := HO9.out
    rw [Nat.zero_add, List.nil_append] at h9
    have hbl := HB9.out
    exact ⟨0, rx, [], List.replicate U1 false, Nat.zero_le _, rfl, HBF.out, by rw [HRL.out]; exact h9, HBS.out.fr' (F := fun _ => False) (Fr.of_below hbl) (fun e => e), by simp, SeenAt.start _, ⟨hbl.os, hbl.tape, hbl.output, hbl.size, fun k hk _ => hbl.block k hk⟩⟩
  clear HO9 HB9 hmk HBS hU1 hsz6 HA6
  go_loopw [14, 15] (fun qv iv wr => RcI ox rx U1 gs w5 qv iv wr) (fun _ iv _ => 400 - (intOf iv).toNat)
  case atStart => exact H0.out
  case round =>
    clear H0
    obtain ⟨i, Q, S, l, hiQ, rfl, hbf, hown, hbr, hll, hse, hfr⟩ := hrel
    obtain ⟨hk3, hk2, hko⟩ := HK.out wr hfr
    have HBF := Lib.hid hbf
    have HO := Lib.hid hown
    have HBR := Lib.hid hbr
    have HLL := Lib.hid hll
    have HSE := Lib.hid hse
    have HFR := Lib.hid hfr
    have H3 := Lib.hid hk3
    have H2 := Lib.hid hk2
    have hqb := hbf.bound hk3.hp.2.1
    rw [HRL.out, ← HU.out] at hqb
    obtain ⟨QL, hQL⟩ : ∃ QL, QL = Q.length := ⟨_, rfl⟩
    rw [← hQL] at hqb hiQ HO hown
    have HQL := Lib.hid hQL
    obtain ⟨qo, qc, rfl⟩ := own_sform hown
    clear hbf hown hbr hll hse hfr hk3 hk2 hko hQL
    by_cases hiq : i < QL
    · have q1 : decide ((i : Int) < (QL : Int)) = true := decide_eq_true (by omega)
      have q2 : decide ((i : Int) < 3000) = true := decide_eq_true (by omega)
      have hiQ2 : i < Q.length := by rw [← HQL.out]; exact hiq
      obtain ⟨g7, c7, e7, hg7a, hg7b, -, hgc7⟩ := own_at HO.out (by omega)
      injection e7 with e7 e8 e9
      subst e7
      clear e8 e9
      have cq := hgc7 i hiQ2
      obtain ⟨q, hq⟩ : ∃ q, Q[i]? = some q := ⟨_, List.getElem?_eq_getElem hiQ2⟩
      have hqe := (List.getElem?_eq_some_iff.1 hq).2
      rw [hqe] at cq
      have hqv : Vd ox q := HBF.out.qv q (by rw [← hqe]; exact List.getElem_mem _)
      have hqp := vd_lt hqv
      rw [← HU.out] at hqp
      obtain ⟨an, rfl⟩ : ∃ an : Nat, q = an := ⟨q.toNat, by omega⟩
      have haU : an < U := by omega
      have HQ := Lib.hid hq
      obtain ⟨v, hv⟩ : ∃ v, l[an]? = some v := ⟨_, List.getElem?_eq_getElem (by rw [HLL.out]; omega)⟩
      have HV := Lib.hid (HSE.out an v hv)
      have cs := HBR.out.cell? hv
      have fs := HBR.out.frz an
      have F20 : Hid (Calls Try.prog 20 #[.pointer (some ⟨b3, 0, none⟩)] wr fun e w' => e = .returned (.int .i64 (U : Nat)) ∧ wr = w') := by
        have := used_any H3.out.hp.1; rw [wds_length, ← HU.out] at this; exact this
      have F22 := Lib.hid (tagm_any H3.out.hp (an : Int) (by omega) (by omega))
      have qt : (((hdo ox an).t : Int) == 0) = false := by
        obtain ⟨qq, hqq⟩ := hqv
        rw [tag_zero H3.out.hp.2.1, hqq]; rfl
      have qa : decide ((an : Int) < 0) = false := decide_eq_false (by omega)
      have qb : decide ((U : Int) ≤ (an : Int)) = false := decide_eq_false (by omega)
      have haU1 : (an : Int) < (U1 : Int) := by omega
      have hpl : QL + (ptrsOf ox an).length ≤ 1000000000 := by
        have h1 := ptrsOf_len H3.out.hp.2.1 (an : Int)
        have h2 := (hdo_low H3.out.hp.2.1 (an : Int)).2.1
        omega
      have HKW : Hid (∀ W, Below wr.heap.size wr W → BRw W gs l ∧ W.ownsRow w5.heap.size 3 1 (.slice (some ⟨g7, 0, none⟩) QL qc) QL (Q.map (Value.int .i64)) ∧ HL w W b3 G3 ox 300 ∧ Fr (fun x => x = gs) w5 W) := fun W hb =>
        ⟨HBR.out.fr' (F := fun _ => False) (Fr.of_below hb) (fun e => e), own_below HO.out hb, H3.out.below hb, HFR.out.trans (F' := fun _ => False) (Fr.of_below hb) (fun _ _ e => e.elim)⟩
      clear hgc7 hq hqe hv hqv
      go_wp2_with fail
      refine F20.out.mono ?_
      rintro e w10 ⟨rfl, rfl⟩
      clear F20
      go_wp2_with fail
      refine F22.out.mono ?_
      rintro e w10 ⟨rfl, hb10⟩
      obtain ⟨k1, k2, k3, k4⟩ := HKW.out w10 hb10
      have HBR1 := Lib.hid k1
      have HO1 := Lib.hid k2
      have H31 := Lib.hid k3
      have HF1 := Lib.hid k4
      clear F22 hb10 k1 k2 k3 k4 cq cs fs HKW HBR HO H3 HFR H2
      cases v with
      | true =>
        have cs : w10.cell? ⟨gs, an, none⟩ = some (.bool true) := HBR1.out.cell? (by
          obtain ⟨v', hv'⟩ : ∃ v', l[an]? = some v' := ⟨_, List.getElem?_eq_getElem (by rw [HLL.out]; omega)⟩
          have h1 := (HSE.out an v' hv').2 (HV.out.1 rfl)
          rw [hv', h1])
        have HREL : Hid (RcI ox rx U1 gs w5 (.slice (some ⟨g7, 0, none⟩) QL qc) (.int .i64 ((i : Int) + 1)) w10) := ⟨i + 1, Q, S, l, by rw [← HQL.out]; omega, by go_num, HBF.out.skip HQ.out (HV.out.1 rfl), by rw [← HQL.out]; exact HO1.out, HBR1.out, HLL.out, HSE.out, HF1.out⟩
        clear HBR1 HO1 HBF HSE
        go_wp2_with fail
        go_roundw
        case rel => exact HREL.out
        case measure => simp [intOf]; omega
      | false =>
        have hns : (an : Int) ∉ S := fun h => by have := HV.out.2 h; cases this
        have cs : w10.cell? ⟨gs, an, none⟩ = some (.bool false) := HBR1.out.cell? (by
          obtain ⟨v', hv'⟩ : ∃ v', l[an]? = some v' := ⟨_, List.getElem?_eq_getElem (by rw [HLL.out]; omega)⟩
          cases v' with
          | false => exact hv'
          | true => exact absurd ((HSE.out an true hv').1 rfl) hns)
        have fs := HBR1.out.frz an
        have hfs : Fr (fun x => x = gs) w10 (w10.setCell ⟨gs, an, none⟩ (.bool true)) := Fr.setCell (F := fun x => x = gs) (p := ⟨gs, an, none⟩) (Fr.refl _ _) rfl _
        have HF2 := Lib.hid (HF1.out.trans hfs (fun _ _ e => e))
        have HBR2 := Lib.hid (HBR1.out.put an true)
        have HO2 := Lib.hid (own_fr HO1.out hfs (fun k hk e => by have := (HO1.out.lt k hk).1; have := HG5.out; omega))
        have F23 := Lib.hid (ptrs_o (HK.out _ HF2.out).1.hp (an : Int) (by omega) (by omega))
        have HBM := Lib.hid (HBF.out.more H31.out.hp.2.2.1 HQ.out hns)
        have HSM := Lib.hid (HSE.out.more (a := an) (by rw [HLL.out]; omega))
        have HNP := Lib.hid hpl
        clear hns hfs HBR1 HO1 HF1 HV HSE hpl
        go_wp2_with fail
        generalize w10.setCell ⟨gs, an, none⟩ (.bool true) = w11 at HF2 HBR2 HO2 F23 ⊢
        refine F23.out.mono ?_
        rintro e w12 hr
        obtain ⟨po, pc, rfl, hown12, hb12⟩ := hr.form
        have HSR := Lib.hid (own_srcA hown12)
        have HO12 := Lib.hid (own_below HO2.out hb12)
        have HBR12 := Lib.hid (HBR2.out.fr' (F := fun _ => False) (Fr.of_below hb12) (fun e => e))
        have HF12 := Lib.hid (HF2.out.trans (F' := fun _ => False) (Fr.of_below hb12) (fun _ _ e => e.elim))
        have hsz12 := HF12.out.size
        obtain ⟨np, hnp⟩ : ∃ np, np = (ptrsOf ox an).length := ⟨_, rfl⟩
        have hpl : QL + np ≤ 1000000000 := by rw [hnp]; exact HNP.out
        rw [← hnp] at HSR ⊢
        have HNP2 := Lib.hid hnp
        obtain ⟨RM, hRM⟩ : ∃ RM, RM = Q.map (Value.int .i64) := ⟨_, rfl⟩
        rw [← hRM] at HO12
        have HRM := Lib.hid hRM
        obtain ⟨PM, hPM⟩ : ∃ PM, PM = (ptrsOf ox an).map (Value.int .i64) := ⟨_, rfl⟩
        rw [← hPM] at HSR
        have HPM := Lib.hid hPM
        have HGG : Hid (gs < w5.heap.size) := HG5.out
        have HGX : Hid (∀ k, Value.ownBlock (.slice (some ⟨g7, 0, none⟩) QL qc) = some k → w5.heap.size ≤ k) := fun k hk => (HO12.out.lt k hk).1
        clear hr hown12 hb12 F23 HF2 HBR2 HO2 HNP hnp hRM hPM cs fs
        go_wp2_with (refine wpList_wantedR (by rfl) fun K hK => ?_; refine wp_appI (Operand.tmp 88) (Operand.tmp 91) rfl w5.heap.size (.slice (some ⟨g7, 0, none⟩) QL qc) QL RM rfl HO12.out (.slice po np pc) rfl np PM HSR.out hpl hsz12 ?_; intro v13 w13 hown13 hg13 hv13; have HO13 := Lib.hid hown13; have HG13 := Lib.hid (Fr.grown hg13); clear hown13 hg13 hv13 HSR HO12; refine hK _ _ ?_; clear hK K)
        have HREL : Hid (RcI ox rx U1 gs w5 v13 (.int .i64 ((i : Int) + 1)) w13) := by
          have hl13 : (Q ++ ptrsOf ox an).length = QL + np := by rw [List.length_append, ← HQL.out, HNP2.out]
          refine ⟨i + 1, Q ++ ptrsOf ox an, S ++ [(an : Int)], l.set an true, by rw [hl13]; omega, by go_num, HBM.out, ?_, HBR12.out.fr' HG13.out (fun e => by have := HGX.out _ e; have := HGG.out; omega), by rw [List.length_set]; exact HLL.out, HSM.out, HF12.out.trans HG13.out (fun x hx e => by have := HGX.out _ e; omega)⟩
          rw [hl13, List.map_append, ← HRM.out, ← HPM.out]; exact HO13.out
        clear HO13 HG13 HBR12 HF12 HBM HSM
        go_roundw
        case rel => exact HREL.out
        case measure => simp [intOf]; omega
    · have q1 : decide ((i : Int) < (QL : Int)) = false := decide_eq_false (by omega)
      have HALL := Lib.hid (HREACH.out Q S i HBF.out (by rw [← HQL.out]; omega))
      have HOO := Lib.hid ((HK.out wr HFR.out).2.2)
      have H0 : Hid (RoI wr N (.int .i64 0) wr) := ⟨0, Nat.zero_le _, rfl, Below.refl _ _⟩
      clear HBF HO HREACH HFR HK HQL
      go_wp2_with fail
      generalize wr = wz at *
      go_loopw [17] (fun iv wr => RoI wz N iv wr) (fun iv _ => N - (intOf iv).toNat)
      case atStart => exact H0.out
      case round =>
        clear H0
        obtain ⟨j, hj, rfl, hbel⟩ := hrel
        have HB := Lib.hid hbel
        have H3w := Lib.hid (H3.out.below hbel)
        have HOw := Lib.hid (own_below HOO.out hbel)
        have HBw := Lib.hid (HBR.out.fr' (F := fun _ => False) (Fr.of_below hbel) (fun e => e))
        clear hbel
        by_cases hjn : j < N
        · have q2 : decide ((j : Int) < (N : Int)) = true := decide_eq_true (by omega)
          have hjl : j < (adrs ox).length := by rw [← HNN.out]; exact hjn
          obtain ⟨go, co, e7, -, hgo, -, hgc⟩ := own_at HOw.out (by omega)
          injection e7 with e7 e8 e9
          subst e7
          clear e8 e9
          have c1 := hgc j hjl
          rw [adrs_get hjl] at c1
          have hjo : j < ox.length := by rw [adrs_len] at hjl; exact hjl
          have hrv : Vd ox (adr ox j : Nat) := ⟨_, ob_loc (loc_adr ox j hjo)⟩
          obtain ⟨r, hr⟩ : ∃ r, r = adr ox j := ⟨_, rfl⟩
          rw [← hr] at c1 hrv
          have hrp := vd_lt hrv
          rw [← HU.out] at hrp
          have hrS := HALL.out _ hrv
          have cs : wr.cell? ⟨gs, r, none⟩ = some (.bool true) := HBw.out.cell? (by
            obtain ⟨v', hv'⟩ : ∃ v', l[r]? = some v' := ⟨_, List.getElem?_eq_getElem (by rw [HLL.out]; omega)⟩
            have h1 := (HSE.out r v' hv').2 hrS
            rw [hv', h1])
          have hrU1 : (r : Int) < (U1 : Int) := by omega
          have qa : decide ((r : Int) < 0) = false := decide_eq_false (by omega)
          have qb : decide ((U1 : Int) ≤ (r : Int)) = false := decide_eq_false (by omega)
          have F22 := Lib.hid (tagm_any H3w.out.hp (r : Int) (by omega) (by omega))
          have F25 := Lib.hid (fun W (hb : Below wr.heap.size wr W) => follow_o (H3w.out.below hb).hp (r : Int) (by omega) (by omega))
          have hfo : (hdo ox r).t = 5 → folOf ox r = -1 := gc_follow hrv (HEND.out _ hrv)
          have HCE : Hid (∀ W, Below wr.heap.size wr W → W.cell? ⟨go, j, none⟩ = some (.int .i64 (r : Int))) := fun W hb => (hb.cell (p := ⟨go, j, none⟩) hgo).trans c1
          clear hgc hr hrv hrS
          by_cases ht : (hdo ox r).t = 5
          · have qt : (((hdo ox r).t : Int) == 5) = true := by rw [ht]; rfl
            rw [hfo ht] at F25
            clear hfo ht
            go_wp2_with fail
            refine F22.out.mono ?_
            rintro e w20 ⟨rfl, hb20⟩
            have B20 := Lib.hid hb20
            have c2 := HCE.out w20 hb20
            clear F22 hb20 c1 cs
            go_wp2_with fail
            refine (F25.out w20 B20.out).mono ?_
            rintro e w21 ⟨rfl, hb21⟩
            have HREL : Hid (RoI wz N (.int .i64 ((j : Int) + 1)) w21) := ⟨j + 1, hjn, by go_num, HB.out.trans ((B20.out.trans (hb21.mono B20.out.size)).mono HB.out.size)⟩
            clear F25 hb21 c2 B20 HCE
            go_wp2_with fail
            go_roundw
            case rel => exact HREL.out
            case measure => simp [intOf]; omega
          · have qt : (((hdo ox r).t : Int) == 5) = false := by
              have : ¬ ((hdo ox r).t : Int) = 5 := by omega
              simpa using this
            clear hfo ht F25
            go_wp2_with fail
            refine F22.out.mono ?_
            rintro e w20 ⟨rfl, hb20⟩
            have HREL : Hid (RoI wz N (.int .i64 ((j : Int) + 1)) w20) := ⟨j + 1, hjn, by go_num, HB.out.trans (hb20.mono HB.out.size)⟩
            clear F22 hb20 c1 cs HCE
            go_wp2_with fail
            go_roundw
            case rel => exact HREL.out
            case measure => simp [intOf]; omega
        · have q2 : decide ((j : Int) < (N : Int)) = false := decide_eq_false (by omega)
          have F26 : Hid (Calls Try.prog 26 #[.pointer (some ⟨b3, 0, none⟩)] wr fun e w' => e = .returned (.int .i64 (300 : Nat)) ∧ wr = w') := words_any H3w.out.hp.1
          have F27 : Hid (Calls Try.prog 26 #[.pointer (some ⟨b, 0, none⟩)] wr fun e w' => e = .returned (.int .i64 (300 : Nat)) ∧ wr = w') := words_any (H2.out.below HB.out).hp.1
          have HF := Lib.hid H3w.out.bel
          clear H3w HOw HBw
          go_wp2_with fail
          refine F26.out.mono ?_
          rintro e w20 ⟨rfl, rfl⟩
          go_wp2_with fail
          refine F27.out.mono ?_
          rintro e w20 ⟨rfl, rfl⟩
          go_wp2_with fail
          go_ret
          exact ⟨rfl, HF.out⟩
end Go.Proofs.Ytjecjlnkpbbanaa
