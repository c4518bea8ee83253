/- lead. -/
import Derived.Test.YtkekekdkfjjifaaZN
namespace Go.Proofs.Ytkekekdkfjjifaa
open Go Go.RowKit
set_option linter.unusedVariables false
set_option linter.unusedSimpArgs false
theorem row_step {P q0 : List Int} {j : Nat} (hj : j < P.length) (hl : q0.length = P.length) : (P.take j ++ q0.drop j).set j P[j] = P.take (j + 1) ++ q0.drop (j + 1) := by
  rw [List.set_append_right _ _ (by rw [List.length_take]; omega), List.length_take, Nat.min_eq_left (by omega), Nat.sub_self, List.take_succ_eq_append_getElem hj, List.append_assoc]
  congr 1
  rw [List.drop_eq_getElem_cons (by omega)]
  rfl
def LdI (B : Nat) (C : Nat → Nat) (c b : Nat) (G : Option Nat) (os : List Ob) (m dp eb pb b2 kb : Nat) (D0 : List Int) (w : World) (iv : Value) (wr : World) : Prop :=
  ∃ (i : Nat) (C' : Nat → Nat) (pk' : List (Option Nat)) (G2' : Option Nat) (dv' : Value) (Q' : List (List Int)), iv = .int .i64 (i : Int) ∧ i ≤ os.length ∧ i ≤ (lead os dp D0 i).length ∧ Cop B wr C' c b G os m dp eb pb pk' b2 G2' kb dv' (lead os dp D0 i) Q' ∧ QD os dp (lead os dp D0 i) Q' i ∧ Cst C w C' wr
def LsI (B g np : Nat) (P q0 : List Int) (i : Nat) (C : Nat → Nat) (c b : Nat) (G : Option Nat) (os : List Ob) (m dp eb pb : Nat) (pk : List (Option Nat)) (b2 kb : Nat) (dv : Value) (D : List Int) (Q : List (List Int)) (w : World) (iv : Value) (wr : World) : Prop :=
  ∃ (j : Nat) (C' : Nat → Nat) (G2' : Option Nat), j ≤ np ∧ iv = .int .i64 (j : Int) ∧ Cop B wr C' c b G os m dp eb pb pk b2 G2' kb dv D (Q.set i (P.take j ++ q0.drop j)) ∧ Cst C w C' wr ∧ IRw wr g P ∧ C' g = 0
def RetLd (B : Nat) (C : Nat → Nat) (c b : Nat) (G : Option Nat) (os : List Ob) (m dp eb pb b2 kb : Nat) (D0 : List Int) (w : World) (e : Ending) (w' : World) : Prop :=
  e = .returned (.tuple #[]) ∧ ∃ (C' : Nat → Nat) (pk' : List (Option Nat)) (G2' : Option Nat) (dv' : Value), Cop B w' C' c b G os m dp eb pb pk' b2 G2' kb dv' (lead os dp D0 os.length) (finQ os dp (lead os dp D0 os.length)) ∧ Cst C w C' w'
/-- One pointer of one copy. -/
theorem Cop.ptr {B : Nat} {w : World} {C : Nat → Nat} {c b : Nat} {G : Option Nat} {os : List Ob} {m dp eb pb : Nat} {pk : List (Option Nat)} {b2 : Nat} {G2 : Option Nat} {kb : Nat} {dv : Value} {D : List Int} {Q : List (List Int)} {i g : Nat} {P q0 : List Int} {a : Int} {j : Nat} (h : Cop B w C c b G os m dp eb pb pk b2 G2 kb dv D (Q.set i (P.take j ++ q0.drop j)))
    (hi : D[i]? = some a) (hP : P = (ptrsOf os a).map fun p => (pos os D (shortO os dp p) : Int)) (hm : ∀ p ∈ ptrsOf os a, shortO os dp p ∈ D) (hq0 : q0.length = P.length) (hj : j < P.length) (hQ : Q.length = D.length) (hg : IRw w g P) (hgC : C g = 0) (hPm : P.length ≤ 1000000) :
    Calls Try.prog 29 #[.pointer (some ⟨b2, 0, none⟩), .int .i64 (pos os D a : Nat), .int .i64 (j : Int), .int .i64 P[j]] w fun e w' => e = .returned (.bool true) ∧ ∃ C' G3, Cop B w' C' c b G os m dp eb pb pk b2 G3 kb dv D (Q.set i (P.take (j + 1) ++ q0.drop (j + 1))) ∧ Cst C w C' w' ∧ IRw w' g P ∧ C' g = 0 := by
  have hil := (List.getElem?_eq_some_iff.1 hi).1
  have hia := (List.getElem?_eq_some_iff.1 hi).2
  have hqi : (Q.set i (P.take j ++ q0.drop j))[i]? = some (P.take j ++ q0.drop j) := by rw [List.getElem?_set, if_pos rfl, if_pos (by omega)]
  have hlen : (P.take j ++ q0.drop j).length = P.length := by rw [List.length_append, List.length_take, List.length_drop]; omega
  have hob := cps_ob h.lk h.nd hi hqi
  have hb1 := ob_pos hob
  have hPl : P.length = (ptrsOf os a).length := by rw [hP, List.length_map]
  have hpj : j < (ptrsOf os a).length := by omega
  have hPj : P[j] = (pos os D (shortO os dp (ptrsOf os a)[j]) : Int) := by simp only [hP, List.getElem_map]
  have hto := cps_mem h.lk h.nd (hm _ (List.getElem_mem hpj))
  rw [← hPj] at hto
  obtain ⟨qt, hqt⟩ := Option.isSome_iff_exists.1 hto
  have hb2 := ob_pos hqt
  have htm : total (cps os D (Q.set i (P.take j ++ q0.drop j))) ≤ 1000000 := by have := h.new.2.2.2.2; have := h.new.2.2.2.1; omega
  have hloc : loc (cps os D (Q.set i (P.take j ++ q0.drop j))) (pos os D a : Nat) = some i := by rw [← hia]; exact cps_loc h.lk h.nd i hil
  refine (set_yes h.new (pos os D a : Nat) (j : Int) P[j] (by omega) (by omega) (by omega) (by omega) (by omega) (by omega) i hloc (by omega) ?_ hto).mono ?_
  · rw [hdo_ob hob]
    show (j : Int) < ((newO (hdo os a).t (P.take j ++ q0.drop j) (numsOf os a)).np : Nat)
    simp only [newO, hlen]; omega
  · rintro e w' ⟨rfl, G3, hH, hF, hG⟩
    rw [Int.toNat_natCast, cps_upd h.lk hi hqi j (by omega) P[j], List.set_set, row_step hj hq0] at hH
    have hset : ((Q.set i (P.take j ++ q0.drop j)).set i (P.take (j + 1) ++ q0.drop (j + 1))) = Q.set i (P.take (j + 1) ++ q0.drop (j + 1)) := List.set_set _
    rw [← hset] at hH
    obtain ⟨C', z1, z2⟩ := h.set hil (q := P.take (j + 1) ++ q0.drop (j + 1)) (by rw [hia, ← hPl, List.length_append, List.length_take, List.length_drop]; omega) hH hF hG
    rw [hset] at z1
    refine ⟨rfl, C', G3, z1, z2, hg.fr' z2.fr (fun e => e.1 hgC), by rw [z2.col _ hg.lt]; exact hgC⟩
set_option maxHeartbeats 16000000 in
set_option maxRecDepth 100000 in
theorem lead_any {B : Nat} {w : World} {C : Nat → Nat} {c b : Nat} {G : Option Nat} {os : List Ob} {m dp eb pb : Nat} {pk : List (Option Nat)} {b2 : Nat} {G2 : Option Nat} {kb : Nat} {dv : Value} {D : List Int} {Q : List (List Int)} (h : Cop B w C c b G os m dp eb pb pk b2 G2 kb dv D Q) (hdp : dp ≤ 20) :
    Calls Try.prog 36 #[.pointer (some ⟨c, 0, none⟩)] w (RetLd B C c b G os m dp eb pb b2 kb D w) := by
  have HOK := Lib.hid h.memo.1.hp.2.1
  have HCL := Lib.hid h.memo.1.hp.2.2.1
  have hm : total os ≤ 1000000 := by have := h.memo.1.hp.2.2.2.2; have := h.memo.1.hp.2.2.2.1; omega
  have hol := total_len os
  have HGD := Lib.hid (fun k => lead_good HCL.out HOK.out dp h.nd h.vd k)
  have H0 : Hid (LdI B C c b G os m dp eb pb b2 kb D w (.int .i64 0) w) := ⟨0, C, pk, G2, dv, Q, rfl, Nat.zero_le _, Nat.zero_le _, h, QD.zero _ _ _ _, Cst.refl _ _⟩
  obtain ⟨U, hU⟩ : ∃ U, U = total os := ⟨_, rfl⟩
  rw [← hU] at hm hol
  have HU := Lib.hid hU
  clear h hU
  go_enter Try.func36, Try.ntmps36
  go_wp2_with fail
  go_loopw [2] (fun iv wr => LdI B C c b G os m dp eb pb b2 kb D w iv wr) (fun iv _ => os.length + 1 - (intOf iv).toNat)
  case atStart => exact H0.out
  case round =>
    clear H0
    obtain ⟨i, C1, pk1, G1, dv1, Q1, rfl, hio, hil, hc, hq, hs⟩ := hrel
    have HC := Lib.hid hc
    have HQ := Lib.hid hq
    have HS := Lib.hid hs
    have hgd := HGD.out i
    have hlo := len_total hgd.1 hgd.2
    have hDn := hc.done
    obtain ⟨DL, hDL⟩ : ∃ DL, DL = (lead os dp D i).length := ⟨_, rfl⟩
    rw [← hDL] at hlo hDn hil
    have HDL := Lib.hid hDL
    obtain ⟨dao, dcap, rfl⟩ := own_sform hDn
    have HDN := Lib.hid hDn
    obtain ⟨c0, -, -, -, c6⟩ := hc.cells
    have HQL := Lib.hid hc.lk.len
    clear hc hq hs hgd hDL hDn
    by_cases hiD : i < DL
    · have q1 : decide ((i : Int) < (DL : Int)) = true := decide_eq_true (by omega)
      have hiL : i < (lead os dp D i).length := by rw [← HDL.out]; exact hiD
      obtain ⟨gd, cd, e1, -, -, -, hcd⟩ := own_at HDN.out (by omega)
      injection e1 with e1 _ _
      subst e1
      have cd := hcd i hiL
      obtain ⟨a, ha⟩ : ∃ a, a = (lead os dp D i)[i] := ⟨_, rfl⟩
      rw [← ha] at cd
      have HAV : Hid (Vd os a) := by rw [ha]; exact (HGD.out i).2 _ (List.getElem_mem _)
      have HAT : Hid ((lead os dp D i)[i]? = some a) := by show _ = _; rw [List.getElem?_eq_getElem hiL, ha]
      have HLN : Hid (lead os dp D (i + 1) = vis os dp (lead os dp D i) (ptrsOf os a)) := by rw [ha]; exact lead_some hiL
      have hvp := vd_lt HAV.out
      rw [← HU.out] at hvp
      obtain ⟨an, han⟩ : ∃ an : Nat, a = an := ⟨a.toNat, by omega⟩
      subst han
      have hanU : an < U := by omega
      have F23 := Lib.hid (fun W (hc : Cop B W C1 c b G os m dp eb pb pk1 b2 G1 kb (.slice (some ⟨gd, 0, none⟩) DL dcap) (lead os dp D i) Q1) => ptrs_o hc.memo.1.hp (an : Int) (by omega) (by omega))
      have hpl60 : (ptrsOf os an).length ≤ 60 := by
        obtain ⟨q, hq⟩ := HAV.out
        have := (HOK.out q (ob_mem hq)).p
        rw [ptrsOf_ob hq]; unfold Ob.ptrs; rw [List.length_take]; omega
      obtain ⟨np, hnp⟩ : ∃ np, np = (ptrsOf os an).length := ⟨_, rfl⟩
      rw [← hnp] at hpl60
      have HNP := Lib.hid hnp
      clear hcd ha hnp hiL
      go_wp2_with fail
      refine (F23.out wr HC.out).mono ?_
      rintro e9 w2 hr2
      obtain ⟨po, pc, rfl, hown2, hb2⟩ := hr2.form
      have hCop2 := HC.out.below hb2
      have F35 := Lib.hid (copied_any hCop2 hdp (.slice po (ptrsOf os an).length pc) (ptrsOf os an) (own_isS hown2) (fun ao n k g o x1 x2 x3 => by
        have h1 : Value.ownBlock (.slice po (ptrsOf os an).length pc) = some g := by rw [x1, x3]; rfl
        exact HC.out.memo.1.fresh g (hown2.lt g h1).1) (by rw [← HNP.out]; omega) (ptrsOf_valid HCL.out))
      have HS2 := Lib.hid (HS.out.below hb2)
      clear hr2 hown2 hb2 hCop2 HC F23 HDN c0 c6 cd HS
      go_wp2_with fail
      refine F35.out.mono ?_
      rintro e9 w3 ⟨g, C3, pk3, G3, dv3, E3, rfl, hc3, hs3, hi3, hg3, hg0⟩
      rw [← HNP.out]
      have HQ3 : Hid (QD os dp (vis os dp (lead os dp D i) (ptrsOf os an)) (Q1 ++ E3) i) := by
        obtain ⟨E, hE⟩ := vis_ext os dp (ptrsOf os an) (lead os dp D i)
        rw [hE]
        have hl9 : Q1.length = (lead os dp D i).length := HQL.out
        exact HQ.out.ext (by rw [← HDL.out]; exact hil) hl9 E E3
      obtain ⟨D3, hD3⟩ : ∃ D3, D3 = vis os dp (lead os dp D i) (ptrsOf os an) := ⟨_, rfl⟩
      rw [← hD3] at hc3 HQ3 HLN
      have HA3 : Hid (D3[i]? = some (an : Int)) := by
        obtain ⟨E, hE⟩ := vis_ext os dp (ptrsOf os an) (lead os dp D i)
        show _ = _
        rw [hD3, hE, List.getElem?_append_left (by rw [← HDL.out]; exact hiD)]; exact HAT.out
      have HMM : Hid (∀ p ∈ ptrsOf os an, shortO os dp p ∈ D3) := fun p hp => by rw [hD3]; exact (vis_mem _ _ _ _ _).2 (.inr ⟨p, hp, rfl⟩)
      obtain ⟨P, hP⟩ : ∃ P, P = poss os dp (lead os dp D i) (ptrsOf os an) := ⟨_, rfl⟩
      rw [← hP] at hi3
      have HP2 : Hid (P = (ptrsOf os an).map fun p => (pos os D3 (shortO os dp p) : Int)) := by show _ = _; rw [hP, hD3]; rfl
      have HPL : Hid (P.length = np) := by show _ = _; rw [hP, poss_len, HNP.out]
      have HQ9 : Hid ((Q1 ++ E3).length = D3.length) := hc3.lk.len
      obtain ⟨q0, hq0⟩ : ∃ q0, (Q1 ++ E3)[i]? = some q0 := ⟨_, List.getElem?_eq_getElem (by rw [HQ9.out]; exact (List.getElem?_eq_some_iff.1 HA3.out).1)⟩
      have HQ0 : Hid (q0.length = P.length) := by
        obtain ⟨x1, x2⟩ := List.getElem?_eq_some_iff.1 hq0
        obtain ⟨y1, y2⟩ := List.getElem?_eq_some_iff.1 HA3.out
        have := hc3.lk.at i y1 x1
        show _ = _
        rw [x2, y2] at this
        rw [this, HPL.out, HNP.out]
      generalize Q1 ++ E3 = Q3 at hc3 HQ3 HQ9 hq0
      have HLS : Hid (LsI B g np P q0 i C c b G os m dp eb pb pk3 b2 kb dv3 D3 Q3 w (.int .i64 0) w3) := by
        refine ⟨0, C3, G3, Nat.zero_le _, rfl, ?_, HS2.out.trans hs3, hi3, hg0⟩
        have e : Q3.set i (P.take 0 ++ q0.drop 0) = Q3 := by
          rw [List.take_zero, List.drop_zero, List.nil_append]
          apply List.ext_getElem?
          intro y
          rw [List.getElem?_set]
          split
          · rename_i e; subst e; rw [hq0]; split
            · rfl
            · rename_i h9; rw [List.getElem?_eq_none (by omega)] at hq0; cases hq0
          · rfl
        rw [e]; exact hc3
      clear F35 HS2 hc3 hs3 hi3 hg3 hg0 hD3 hP hq0 HQ HAT
      go_wp2_with fail
      go_loopw [32] (fun iv wr => LsI B g np P q0 i C c b G os m dp eb pb pk3 b2 kb dv3 D3 Q3 w iv wr) (fun iv _ => np - (intOf iv).toNat)
      case atStart => exact HLS.out
      case round =>
        clear HLS
        obtain ⟨j, C4, G4, hj, rfl, hc4, hs4, hi4, hg4⟩ := hrel
        have HC4 := Lib.hid hc4
        have HS4 := Lib.hid hs4
        have HI4 := Lib.hid hi4
        have HG4 := Lib.hid hg4
        clear hc4 hs4 hi4 hg4
        by_cases hjn : j < np
        · have q1 : decide ((j : Int) < (np : Int)) = true := decide_eq_true (by omega)
          have hjP : j < P.length := by rw [HPL.out]; exact hjn
          have cj := HI4.out.cell j hjP
          have F29 := Lib.hid (fun (W : World) (hb : Below wr.heap.size wr W) => (HC4.out.below hb).ptr HA3.out HP2.out HMM.out HQ0.out hjP HQ9.out (HI4.out.fr' (F := fun _ => False) (Fr.of_below hb) (fun e => e)) HG4.out (by rw [HPL.out]; omega))
          obtain ⟨x, hx⟩ : ∃ x, x = P[j] := ⟨_, rfl⟩
          rw [← hx] at cj F29
          clear hx
          go_wp2_with fail
          have HCX : Hid (∀ W, Below wr.heap.size wr W → W.cell? ⟨c, 4, none⟩ = some (.pointer (some ⟨b2, 0, none⟩)) ∧ W.cell? ⟨c, 5, none⟩ = some (.slice (some ⟨kb, 0, none⟩) U U) ∧ W.cell? ⟨kb, an, none⟩ = some (.int .i64 (pos os D3 an : Nat))) := by
            intro W hb
            have h9 := HC4.out.below hb
            obtain ⟨-, -, a4, a5, -⟩ := h9.cells
            rw [← HU.out] at a5
            obtain ⟨ks, k1, k2, k3⟩ := h9.k
            obtain ⟨v, hv⟩ : ∃ v, ks[an]? = some v := ⟨_, List.getElem?_eq_getElem (by rw [k2, ← HU.out]; exact hanU)⟩
            have hv2 := k3 an v hv HAV.out
            rw [if_pos (by obtain ⟨y1, y2⟩ := List.getElem?_eq_some_iff.1 HA3.out; rw [← y2]; exact List.getElem_mem _)] at hv2
            exact ⟨a4, a5, by rw [← hv2]; exact k1.cell? hv⟩
          refine wp_region_noPanic ?_
          refine wp_region_held_drew (S := fun W => W.cell? ⟨c, 4, none⟩ = some (.pointer (some ⟨b2, 0, none⟩)) ∧ W.cell? ⟨c, 5, none⟩ = some (.slice (some ⟨kb, 0, none⟩) U U) ∧ W.cell? ⟨kb, an, none⟩ = some (.int .i64 (pos os D3 an : Nat))) (by kernel_rfl) (HCX.out _ (Below.refl wr.heap.size wr).drew) (fun hHeld => ?_)
          have HBX : Hid (Below wr.heap.size wr wr.drew) := (Below.refl _ _).drew
          generalize wr.drew = X at HBX hHeld ⊢
          refine wpAnyH_take (i := 0) (v := ?v0) rfl (by kernel_rfl) (by kernel_rfl) (by kernel_rfl) (fun _ _ _ h => h) (Or.inl ⟨rfl, fun w' hw' => ?h0⟩) hHeld ?r0
          case h0 =>
            (go_simp; try omega)
            try with_reducible rfl
          simp only [List.getElem_toArray, List.getElem_cons_succ, List.getElem_cons_zero, Act.put, List.setIfInBounds_toArray, List.set_cons_zero, List.set_cons_succ]
          refine wpAnyH_take (i := 1) (v := ?v1) rfl (by kernel_rfl) (by kernel_rfl) (by kernel_rfl) (fun _ _ _ h => h) (Or.inl ⟨rfl, fun w' hw' => ?h1⟩) hHeld ?r1
          case h1 =>
            (go_simp; try omega)
            try with_reducible rfl
          simp only [List.getElem_toArray, List.getElem_cons_succ, List.getElem_cons_zero, Act.put, List.setIfInBounds_toArray, List.set_cons_zero, List.set_cons_succ]
          refine wpAnyH_take (i := 2) (v := ?v2) rfl (by kernel_rfl) (by kernel_rfl) (by kernel_rfl) (fun _ _ _ h => h) (Or.inl ⟨rfl, fun w' hw' => ?h2⟩) hHeld ?r2
          case h2 =>
            (go_simp; try omega)
            try with_reducible rfl
          simp only [List.getElem_toArray, List.getElem_cons_succ, List.getElem_cons_zero, Act.put, List.setIfInBounds_toArray, List.set_cons_zero, List.set_cons_succ]
          refine wpAnyH_take (i := 3) (v := ?v3) rfl (by kernel_rfl) (by kernel_rfl) (by kernel_rfl) (fun _ _ _ h => h) (Or.inl ⟨rfl, fun w' hw' => ?h3⟩) hHeld ?r3
          case h3 =>
            (obtain ⟨d0, _, _⟩ := hw'; go_simp)
            try with_reducible rfl
          simp only [List.getElem_toArray, List.getElem_cons_succ, List.getElem_cons_zero, Act.put, List.setIfInBounds_toArray, List.set_cons_zero, List.set_cons_succ]
          refine wpAnyH_take (i := 4) (v := ?v4) rfl (by kernel_rfl) (by kernel_rfl) (by kernel_rfl) (fun _ _ _ h => h) (Or.inl ⟨rfl, fun w' hw' => ?h4⟩) hHeld ?r4
          case h4 =>
            (go_simp; try omega)
            try with_reducible rfl
          simp only [List.getElem_toArray, List.getElem_cons_succ, List.getElem_cons_zero, Act.put, List.setIfInBounds_toArray, List.set_cons_zero, List.set_cons_succ]
          refine wpAnyH_take (i := 5) (v := ?v5) rfl (by kernel_rfl) (by kernel_rfl) (by kernel_rfl) (fun _ _ _ h => h) (Or.inl ⟨rfl, fun w' hw' => ?h5⟩) hHeld ?r5
          case h5 =>
            (go_simp; try omega)
            try with_reducible rfl
          simp only [List.getElem_toArray, List.getElem_cons_succ, List.getElem_cons_zero, Act.put, List.setIfInBounds_toArray, List.set_cons_zero, List.set_cons_succ]
          refine wpAnyH_take (i := 6) (v := ?v6) rfl (by kernel_rfl) (by kernel_rfl) (by kernel_rfl) (fun _ _ _ h => h) (Or.inl ⟨rfl, fun w' hw' => ?h6⟩) hHeld ?r6
          case h6 =>
            (go_simp; try omega)
            try with_reducible rfl
          simp only [List.getElem_toArray, List.getElem_cons_succ, List.getElem_cons_zero, Act.put, List.setIfInBounds_toArray, List.set_cons_zero, List.set_cons_succ]
          refine wpAnyH_take (i := 7) (v := ?v7) rfl (by kernel_rfl) (by kernel_rfl) (by kernel_rfl) (fun _ _ _ h => h) (Or.inl ⟨rfl, fun w' hw' => ?h7⟩) hHeld ?r7
          case h7 =>
            (obtain ⟨_, d0, _⟩ := hw'; go_simp)
            try with_reducible rfl
          simp only [List.getElem_toArray, List.getElem_cons_succ, List.getElem_cons_zero, Act.put, List.setIfInBounds_toArray, List.set_cons_zero, List.set_cons_succ]
          refine wpAnyH_take (i := 8) (v := ?v8) rfl (by kernel_rfl) (by kernel_rfl) (by kernel_rfl) (fun _ _ _ h => h) (Or.inl ⟨rfl, fun w' hw' => ?h8⟩) hHeld ?r8
          case h8 =>
            (go_simp; try omega)
            try with_reducible rfl
          simp only [List.getElem_toArray, List.getElem_cons_succ, List.getElem_cons_zero, Act.put, List.setIfInBounds_toArray, List.set_cons_zero, List.set_cons_succ]
          refine wpAnyH_take (i := 9) (v := Value.pointer (some ⟨kb, an, none⟩)) rfl (by kernel_rfl) (by kernel_rfl) (by kernel_rfl) (fun _ _ _ h => h) (Or.inl ⟨rfl, fun w' hw' => ?_⟩) hHeld ?_
          · (go_simp; try omega)
          simp only [List.getElem_toArray, List.getElem_cons_succ, List.getElem_cons_zero, Act.put, List.setIfInBounds_toArray, List.set_cons_zero, List.set_cons_succ]
          refine wpAnyH_take (i := 10) (v := ?v10) rfl (by kernel_rfl) (by kernel_rfl) (by kernel_rfl) (fun _ _ _ h => h) (Or.inl ⟨rfl, fun w' hw' => ?h10⟩) hHeld ?r10
          case h10 =>
            (obtain ⟨_, _, d0⟩ := hw'; go_simp)
            try with_reducible rfl
          simp only [List.getElem_toArray, List.getElem_cons_succ, List.getElem_cons_zero, Act.put, List.setIfInBounds_toArray, List.set_cons_zero, List.set_cons_succ]
          refine wpAnyH_take (i := 11) (v := ?v11) rfl (by kernel_rfl) (by kernel_rfl) (by kernel_rfl) (fun _ _ _ h => h) (Or.inl ⟨rfl, fun w' hw' => ?h11⟩) hHeld ?r11
          case h11 =>
            (go_simp; try omega)
            try with_reducible rfl
          simp only [List.getElem_toArray, List.getElem_cons_succ, List.getElem_cons_zero, Act.put, List.setIfInBounds_toArray, List.set_cons_zero, List.set_cons_succ]
          refine wpAnyH_take (i := 12) (v := ?v12) rfl (by kernel_rfl) (by kernel_rfl) (by kernel_rfl) (fun _ _ _ h => h) (Or.inl ⟨rfl, fun w' hw' => ?h12⟩) hHeld ?r12
          case h12 =>
            (go_simp; try omega)
            try with_reducible rfl
          simp only [List.getElem_toArray, List.getElem_cons_succ, List.getElem_cons_zero, Act.put, List.setIfInBounds_toArray, List.set_cons_zero, List.set_cons_succ]
          refine wpAnyH_ready (rs := [13]) (by kernel_rfl) (by simp) ?_
          refine (AllReadyH.cons rfl (fun K hK => ?_) AllReadyH.nil)
          go_simp
          refine (F29.out X HBX.out).mono ?_
          rintro e9 w5 ⟨rfl, C5, G5, hc5, hs5, hi5, hg5⟩
          have HREL : Hid (LsI B g np P q0 i C c b G os m dp eb pb pk3 b2 kb dv3 D3 Q3 w (.int .i64 ((j : Int) + 1)) w5) := ⟨j + 1, C5, G5, hjn, by go_num, hc5, (HS4.out.below HBX.out).trans hs5, hi5, hg5⟩
          have s5 : w5.cell? ⟨c, 4, none⟩ = some (.pointer (some ⟨b2, 0, none⟩)) ∧ w5.cell? ⟨c, 5, none⟩ = some (.slice (some ⟨kb, 0, none⟩) U U) ∧ w5.cell? ⟨kb, an, none⟩ = some (.int .i64 (pos os D3 an : Nat)) := by
            obtain ⟨-, -, a4, a5, -⟩ := hc5.cells
            rw [← HU.out] at a5
            obtain ⟨ks, k1, k2, k3⟩ := hc5.k
            obtain ⟨v, hv⟩ : ∃ v, ks[an]? = some v := ⟨_, List.getElem?_eq_getElem (by rw [k2, ← HU.out]; exact hanU)⟩
            have hv2 := k3 an v hv HAV.out
            rw [if_pos (by obtain ⟨y1, y2⟩ := List.getElem?_eq_some_iff.1 HA3.out; rw [← y2]; exact List.getElem_mem _)] at hv2
            exact ⟨a4, a5, by rw [← hv2]; exact k1.cell? hv⟩
          clear hc5 hs5 hi5 hg5
          refine hK.out _ _ s5 (fun hHeld => ?_)
          clear s5
          clear hK K
          try simp only [List.getElem_toArray, List.getElem_cons_succ, List.getElem_cons_zero, Act.put, List.setIfInBounds_toArray, List.set_cons_zero, List.set_cons_succ]
          refine wpAnyH_done (by kernel_rfl) ?_ _
          refine NoPanic.normal ?_
          clear hHeld
          go_wp2_with fail
          go_roundw
          case rel => exact HREL.out
          case measure => simp [intOf]; omega
        · have hjn2 : j = np := by omega
          have q1 : decide ((j : Int) < (np : Int)) = false := decide_eq_false (by omega)
          have HREL : Hid (LdI B C c b G os m dp eb pb b2 kb D w (.int .i64 ((i : Int) + 1)) wr) := by
            have h1 := HC4.out
            have h2 : P.take j ++ q0.drop j = P := by
              have e1 := HPL.out
              have e2 := HQ0.out
              rw [List.take_of_length_le (by omega), List.drop_of_length_le (by omega), List.append_nil]
            rw [h2] at h1
            have h3 := HQ3.out.next HA3.out HQ9.out HMM.out
            rw [← HP2.out] at h3
            have h4 := (List.getElem?_eq_some_iff.1 HA3.out).1
            refine ⟨i + 1, C4, pk3, G4, dv3, _, by go_num, by omega, by rw [HLN.out]; omega, by rw [HLN.out]; exact h1, by rw [HLN.out]; exact h3, HS4.out⟩
          go_wp2_with fail
          go_roundw
          case rel => exact HREL.out
          case measure => simp [intOf]; omega
    · have q1 : decide ((i : Int) < (DL : Int)) = false := decide_eq_false (by omega)
      have HF : Hid (∃ (C' : Nat → Nat) (pk' : List (Option Nat)) (G2' : Option Nat) (dv' : Value), Cop B wr C' c b G os m dp eb pb pk' b2 G2' kb dv' (lead os dp D os.length) (finQ os dp (lead os dp D os.length)) ∧ Cst C w C' wr) := by
        have e1 := HDL.out
        obtain ⟨y, hy⟩ : ∃ y, os.length = i + y := ⟨os.length - i, by omega⟩
        have e2 : lead os dp D os.length = lead os dp D i := by rw [hy]; exact lead_stop (by omega) y
        rw [e2]
        refine ⟨C1, pk1, G1, .slice dao DL dcap, ?_, HS.out⟩
        rw [← HQ.out.all (by omega) HC.out.lk.len]
        exact HC.out
      clear HC HQ HDN
      go_wp2_with fail
      go_end0
      exact ⟨rfl, HF.out⟩
end Go.Proofs.Ytkekekdkfjjifaa
namespace Go.Proofs.Ytkekekdkfjjifaa
open Go Go.RowKit
set_option linter.unusedVariables false
set_option linter.unusedSimpArgs false
def okR (os : List Ob) (rs : List Int) : Bool := rs.all fun r => (ob os r).isSome
theorem tag_zero {os : List Ob} (hk : Oks os) (a : Int) : (((hdo os a).t : Int) == 0) = !(ob os a).isSome := by
  unfold hdo
  cases h : ob os a with
  | none => rfl
  | some o =>
    have := (hk o (ob_mem h)).t1
    have : ¬ (o.tag : Int) = 0 := by omega
    show ((o.tag : Int) == 0) = false
    simpa using this
def ArI (os : List Ob) (rs : List Int) (w : World) (iv : Value) (wr : World) : Prop := ∃ j : Nat, j ≤ rs.length ∧ iv = .int .i64 (j : Int) ∧ okR os (rs.take j) = true ∧ Below w.heap.size w wr
set_option maxHeartbeats 16000000 in
set_option maxRecDepth 100000 in
theorem are_any {w : World} {b : Nat} {G : Option Nat} {os : List Ob} {m : Nat} (h : HpO w b G os m) (rv : Value) (rs : List Int) (hr : IsS w rv rs) (hl : rs.length ≤ 1000000) (hb : ∀ r ∈ rs, I64 r) : Calls Try.prog 33 #[.pointer (some ⟨b, 0, none⟩), rv] w (RetV (.bool (okR os rs)) w) := by
  have HH := Lib.hid h
  have HR := Lib.hid hr
  have HB := Lib.hid hb
  have H0 : Hid (ArI os rs w (.int .i64 0) w) := ⟨0, Nat.zero_le _, rfl, rfl, Below.refl _ _⟩
  obtain ⟨rao, rcap, rfl, hcap, hrr⟩ := hr
  obtain ⟨n, hn⟩ : ∃ n, n = rs.length := ⟨_, rfl⟩
  rw [← hn] at hl hcap HR ⊢
  have HN := Lib.hid hn
  clear h hb hn hrr
  go_enter Try.func33, Try.ntmps33
  go_wp2_with fail
  go_loopw [9] (fun iv wr => ArI os rs w iv wr) (fun iv _ => n - (intOf iv).toNat)
  case atStart => exact H0.out
  case round =>
    clear H0
    obtain ⟨j, hj, rfl, hok, hbel⟩ := hrel
    have HOK := Lib.hid hok
    have HBL := Lib.hid hbel
    rw [← HN.out] at hj
    clear hok hbel
    by_cases hjn : j < n
    · have q1 : decide ((j : Int) < (n : Int)) = true := decide_eq_true (by omega)
      have hjl : j < rs.length := by rw [← HN.out]; exact hjn
      obtain ⟨ao', cap', e1, _, hr⟩ := HR.out.below HBL.out
      injection e1 with e1 e2 e3
      rcases hr with ⟨_, e⟩ | ⟨gl, ol, e4, hcl⟩
      · rw [e] at hjl; simp at hjl
      · rw [← e1] at e4
        subst e4
        have cl := hcl j hjl
        obtain ⟨a, ha⟩ : ∃ a, a = rs[j] := ⟨_, rfl⟩
        rw [← ha] at cl
        have hai := HB.out rs[j] (List.getElem_mem _)
        rw [← ha] at hai
        have F22 := Lib.hid (tagm_any (HH.out.below HBL.out) a hai.1 hai.2)
        have HT := Lib.hid (tag_zero HH.out.2.1 a)
        have HTK : Hid (rs.take (j + 1) = rs.take j ++ [a]) := by show _ = _; rw [List.take_succ_eq_append_getElem hjl, ha]
        clear hcl e1 e2 e3 hai
        cases ho : (ob os a).isSome with
        | false =>
          have q0 : (((hdo os a).t : Int) == 0) = true := by rw [HT.out, ho]; rfl
          have HF : Hid (okR os rs = false) := by
            show _ = _
            unfold okR
            rw [List.all_eq_false]
            exact ⟨rs[j], List.getElem_mem _, by rw [← ha, ho]; decide⟩
          clear ha HT
          go_wp2_with fail
          refine F22.out.mono ?_
          rintro e w2 ⟨rfl, hb2⟩
          have HB2 := Lib.hid (HBL.out.trans (hb2.mono HBL.out.size))
          clear hb2
          go_wp2_with fail
          go_ret
          exact ⟨by rw [HF.out]; rfl, HB2.out⟩
        | true =>
          have q0 : (((hdo os a).t : Int) == 0) = false := by rw [HT.out, ho]; rfl
          have HO9 : Hid (okR os (rs.take (j + 1)) = true) := by
            show _ = _
            have := HOK.out
            rw [HTK.out]; unfold okR at this ⊢; rw [List.all_append, this]; simp [ho]
          clear ha HT
          go_wp2_with fail
          refine F22.out.mono ?_
          rintro e w2 ⟨rfl, hb2⟩
          have HREL : Hid (ArI os rs w (.int .i64 ((j : Int) + 1)) w2) := ⟨j + 1, hjl, by go_num, HO9.out, HBL.out.trans (hb2.mono HBL.out.size)⟩
          clear hb2
          go_wp2_with fail
          go_roundw
          case rel => exact HREL.out
          case measure => simp [intOf]; omega
    · have hjn2 : j = n := by omega
      subst hjn2
      have q1 : decide ((j : Int) < (j : Int)) = false := decide_eq_false (by omega)
      have HF : Hid (okR os rs = true) := by have := HOK.out; rw [HN.out, List.take_length] at this; exact this
      clear HR
      go_wp2_with fail
      go_ret
      exact ⟨by rw [HF.out]; rfl, HBL.out⟩
/-- The copier, at the start. -/
theorem New.cop {w w' : World} {b : Nat} {G : Option Nat} {os : List Ob} {m dp c eb pb b2 kb : Nat} (h : HpO w b G os m) (n : New b m (total os) dp w c eb pb b2 kb w') :
    ∃ C, Cop w.heap.size w' C c b G os m dp eb pb (List.replicate (total os) none) b2 none kb (.slice none 0 0) [] [] ∧ ∀ k, k < w.heap.size → (k ≠ b ∧ G ≠ some k) → C k = 0 := by
  obtain ⟨cell, e, p, k, hh, bel, ⟨l1, l2, l3, l4, l5⟩, ⟨n1, n2, n3, n4, n5⟩⟩ := n
  have hb := h.1.lt
  have hG := h.1.glt
  have hcl : c < w'.heap.size := (Array.getElem?_eq_some_iff.1 cell).1
  refine ⟨fun k => if k = c then 1 else if k = b ∨ G = some k then 6 else if k = eb then 2 else if k = pb then 3 else if k = b2 then 5 else if k = kb then 7 else 0, ⟨⟨⟨h.below bel, ?_, ?_, ?_, ?_, ?_, ?_, ?_, by simp, p, ?_, ?_, ?_, ?_, ?_⟩, _, e, by simp, ?_⟩, cell, hh, .nil, by simp, by simp, ⟨_, k, by simp, ?_⟩, World.ownsRow_nil _ _ _ _, ?_, (fun k hk => nomatch hk), ?_, (fun k hk => nomatch hk), ?_⟩, ?_⟩
  · show (if b = c then 1 else _) = 6
    rw [if_neg (by omega), if_pos (.inl rfl)]
  · intro k hk
    have := (hG k hk).1
    show (if k = c then 1 else _) = 6
    rw [if_neg (by omega), if_pos (.inr hk)]
  · show (if c = c then 1 else _) = 1
    rw [if_pos rfl]
  · show (if eb = c then 1 else _) = 2
    rw [if_neg (by omega), if_neg (by rintro (e | e); omega; have := (hG _ e).1; omega), if_pos rfl]
  · show (if pb = c then 1 else _) = 3
    rw [if_neg (by omega), if_neg (by rintro (e | e); omega; have := (hG _ e).1; omega), if_neg (by omega), if_pos rfl]
  · intro i q hq; rw [List.getElem?_replicate] at hq; split at hq <;> simp at hq
  · intro i j q hq; rw [List.getElem?_replicate] at hq; split at hq <;> simp at hq
  · intro i q hq; rw [List.getElem?_replicate] at hq; split at hq <;> simp at hq
  · rw [cell_of_row _ _ _ _ _ _ cell]; rfl
  · rw [cell_of_row _ _ _ _ _ _ cell]; rfl
  · rw [cell_of_row _ _ _ _ _ _ cell]; rfl
  · intro k hk
    have h1 := e.lt
    have h2 := p.lt
    have h3 := bel.size
    show (if k = c then 1 else _) = 0
    rw [if_neg (by omega), if_neg (by rintro (e | e); omega; have := (hG _ e).1; omega), if_neg (by omega), if_neg (by omega), if_neg (by omega), if_neg (by omega)]
  · intro i v hv _
    rw [List.getElem?_replicate] at hv
    split at hv
    · injection hv with hv; exact .inl hv.symm
    · cases hv
  · intro i v hv _
    rw [List.getElem?_replicate] at hv
    split at hv
    · injection hv with hv; rw [if_neg (by simp)]; exact hv.symm
    · cases hv
  · show (if b2 = c then 1 else _) = 5
    rw [if_neg (by omega), if_neg (by rintro (e | e); omega; have := (hG _ e).1; omega), if_neg (by omega), if_neg (by omega), if_pos rfl]
  · show (if kb = c then 1 else _) = 7
    rw [if_neg (by omega), if_neg (by rintro (e | e); omega; have := (hG _ e).1; omega), if_neg (by omega), if_neg (by omega), if_neg (by omega), if_pos rfl]
  · intro k hk hk6
    apply Decidable.byContradiction
    intro hn
    by_cases e6 : k = b ∨ G = some k
    · exact hk6 (by show (if k = c then 1 else _) = 6; rw [if_neg (by omega), if_pos e6])
    · exact hk (by show (if k = c then 1 else _) = 0; rw [if_neg (by omega), if_neg e6, if_neg (by omega), if_neg (by omega), if_neg (by omega), if_neg (by omega)])
  · intro k hk hn
    show (if k = c then 1 else _) = 0
    rw [if_neg (by omega), if_neg (by rintro (e | e); exact hn.1 e; exact hn.2 e), if_neg (by omega), if_neg (by omega), if_neg (by omega), if_neg (by omega)]
theorem gcR_poss {os : List Ob} (dp : Nat) (rs : List Int) : poss os dp [] rs = gcR os dp rs := by
  unfold poss gcR allD
  apply List.map_congr_left
  intro r hr
  obtain ⟨E, hE⟩ := lead_ext os dp (vis os dp [] rs) 0 os.length
  rw [Nat.zero_add] at hE
  rw [hE]
  show _ = ((pos os (vis os dp [] rs ++ E) (shortO os dp r) : Nat) : Int)
  rw [pos_app _ ((vis_mem os dp rs [] _).2 (.inr ⟨r, hr, rfl⟩))]
def RetGc (os : List Ob) (m dp : Nat) (rs : List Int) (w : World) (e : Ending) (w' : World) : Prop :=
  ∃ (b2 g : Nat) (G2 : Option Nat), e = .returned (.tuple #[.pointer (some ⟨b2, 0, none⟩), .slice (some ⟨g, 0, none⟩) rs.length rs.length, .bool true]) ∧ HpO w' b2 G2 (gcO os dp rs) m ∧ IRw w' g (gcR os dp rs) ∧ Below w.heap.size w w' ∧
    w.heap.size ≤ b2 ∧ w.heap.size ≤ g ∧ (∀ k, G2 = some k → w.heap.size ≤ k) ∧ g ≠ b2 ∧ G2 ≠ some g
set_option maxHeartbeats 16000000 in
set_option maxRecDepth 100000 in
theorem collect_yes {w : World} {b : Nat} {G : Option Nat} {os : List Ob} {m : Nat} (h : HpO w b G os m) (dp : Nat) (hdp : dp ≤ 20) (rv : Value) (rs : List Int) (hr : IsS w rv rs) (ha : Apart rv b G) (hl : rs.length ≤ 1000000) (hv : ∀ r ∈ rs, Vd os r) :
    Calls Try.prog 16 #[.pointer (some ⟨b, 0, none⟩), rv, .int .i64 dp] w (RetGc os m dp rs w) := by
  have hm : total os ≤ 1000000 := by have := h.2.2.2.2; have := h.2.2.2.1; omega
  have hok : okR os rs = true := by
    unfold okR
    rw [List.all_eq_true]
    intro r hr
    obtain ⟨q, hq⟩ := hv r hr
    rw [hq]; rfl
  have F33 := Lib.hid (are_any h rv rs hr hl (fun r hr => by have := vd_lt (hv r hr); unfold I64; omega))
  rw [hok] at F33
  have F34 := Lib.hid (fun W (hb : Below w.heap.size w W) => newCopier_any (h.below hb) dp)
  have HH := Lib.hid h
  have HR := Lib.hid hr
  have HA := Lib.hid ha
  have HV := Lib.hid hv
  have q1 : decide ((dp : Int) < 0) = false := decide_eq_false (by omega)
  have q2 : decide ((20 : Int) < (dp : Int)) = false := decide_eq_false (by omega)
  have hsl : ∃ ao c, rv = .slice ao rs.length c := by obtain ⟨ao, c, e, _⟩ := hr; exact ⟨ao, c, e⟩
  obtain ⟨rao, rc, rfl⟩ := hsl
  obtain ⟨n, hn⟩ : ∃ n, n = rs.length := ⟨_, rfl⟩
  rw [← hn] at hl F33 HR HA ⊢
  have HN := Lib.hid hn
  clear h hr ha hv hok hn
  go_enter Try.func16, Try.ntmps16
  go_wp2_with fail
  refine F33.out.mono ?_
  rintro e w1 ⟨rfl, hb1⟩
  have HB1 := Lib.hid hb1
  clear F33 hb1
  go_wp2_with fail
  refine (F34.out w1 HB1.out).mono ?_
  rintro e w2 ⟨c, eb, pb, b2, kb, rfl, hnew⟩
  have hbel2 := hnew.bel
  obtain ⟨C2, hc2, h0⟩ := hnew.cop (HH.out.below HB1.out)
  have HB2 := Lib.hid (HB1.out.trans (hbel2.mono HB1.out.size))
  have HC2 := Lib.hid hc2
  have HRS := Lib.hid (HR.out.below HB2.out)
  have HOT : Hid (Out C2 (.slice rao n rc)) := by
    intro ao k cp g o x1 x2 x3
    obtain ⟨a1, a2⟩ := HA.out ao k cp g o x1 x2 x3
    refine h0 g ?_ ⟨a1, a2⟩
    obtain ⟨ao', cap', e4, _, hrr⟩ := HR.out
    rw [x1] at e4
    injection e4 with e4 e5 e6
    rcases hrr with ⟨_, e7⟩ | ⟨g', o', e7, e8⟩
    · rw [e5, e7] at x2; simp at x2
    · rw [x3, e7] at e4
      injection e4 with e4
      injection e4 with e9 e10
      subst e9
      have h1 := World.block_lt_of_cell? w _ (e8 0 (by omega))
      exact Nat.lt_of_lt_of_le h1 HB1.out.size
  have F35 := Lib.hid (copied_any hc2 hdp (.slice rao n rc) rs HRS.out HOT.out (by rw [← HN.out]; exact hl) HV.out)
  clear F34 hnew hbel2 hc2 h0 HRS HOT
  go_wp2_with fail
  refine F35.out.mono ?_
  rintro e w3 ⟨g, C3, pk3, G3, dv3, E3, rfl, hc3, hs3, hi3, hg3, hg0⟩
  rw [← HN.out]
  rw [List.nil_append] at hc3
  have F36 := Lib.hid (lead_any hc3 hdp)
  have HS3 := Lib.hid hs3
  have HI3 := Lib.hid hi3
  have HG0 := Lib.hid hg0
  have hgl := hi3.lt
  clear F35 hc3 hs3 hi3 hg0
  go_wp2_with fail
  refine F36.out.mono ?_
  rintro e w4 ⟨rfl, C4, pk4, G4, dv4, hc4, hs4⟩
  obtain ⟨-, -, c4, -, -⟩ := hc4.cells
  have HC4 := Lib.hid hc4
  have HS4 := Lib.hid hs4
  clear F36 hc4 hs4
  go_wp2_with fail
  go_ret3
  have hB : Below w.heap.size w w4 := by
    have h1 := HS3.out.trans HS4.out
    have h2 : Below w.heap.size w2 w4 := h1.fr.below (fun x hx e => by
      have := HC2.out.low x e.1 e.2
      have := HB1.out.size
      omega) HB2.out.size
    exact HB2.out.trans h2
  have hs1 := HB1.out.size
  have hs2 := HB2.out.size
  have hs3 := HS3.out.fr.size
  have hx := HC4.out.c2
  have hcg : C4 g = 0 := (HS4.out.col g hgl).trans HG0.out
  refine ⟨b2, g, G4, by rw [← HN.out]; rfl, HC4.out.new, ?_, hB, ?_, ?_, fun k hk => ?_, fun e => ?_, fun e => ?_⟩
  · have := HI3.out.fr' HS4.out.fr (fun e => e.1 HG0.out)
    rw [gcR_poss] at this; exact this
  · have := HC4.out.low b2 (by rw [hx]; decide) (by rw [hx]; decide); omega
  · omega
  · have h9 := HC4.out.cg2 k hk
    have := HC4.out.low k (by rw [h9]; decide) (by rw [h9]; decide); omega
  · rw [e, hx] at hcg; cases hcg
  · rw [HC4.out.cg2 g e] at hcg; cases hcg
end Go.Proofs.Ytkekekdkfjjifaa
namespace Go.Proofs.Ytkekekdkfjjifaa
open Go Go.RowKit
set_option linter.unusedVariables false
set_option linter.unusedSimpArgs false
def GcAt (B : World) (os : List Ob) (m dp : Nat) (rs : List Int) (b : Nat) (G : Option Nat) (b2 g : Nat) (G2 : Option Nat) (w' : World) : Prop :=
  HL B w' b2 G2 (gcO os dp rs) m ∧ HL B w' b G os m ∧ IRw w' g (gcR os dp rs) ∧ g ≠ b2 ∧ G2 ≠ some g ∧ b < b2 ∧ b < g ∧ (∀ k, G = some k → k < b2 ∧ k < g) ∧ B.heap.size ≤ g
theorem HL.gc {B w w' : World} {b : Nat} {G : Option Nat} {os : List Ob} {m dp : Nat} {rs : List Int} {e : Ending} (h : HL B w b G os m) (hr : RetGc os m dp rs w e w') :
    ∃ b2 g G2, e = .returned (.tuple #[.pointer (some ⟨b2, 0, none⟩), .slice (some ⟨g, 0, none⟩) rs.length rs.length, .bool true]) ∧ GcAt B os m dp rs b G b2 g G2 w' ∧ Below w.heap.size w w' ∧ w.heap.size ≤ b2 ∧ w.heap.size ≤ g := by
  obtain ⟨b2, g, G2, he, h1, h2, h3, h4, h5, h6, h7, h8⟩ := hr
  have hl := h.hp.1.lt
  have hg := h.hp.1.glt
  have hs := h.bel.size
  exact ⟨b2, g, G2, he, ⟨⟨h1, h.bel.trans (h3.mono hs), by omega, fun k hk => by have := h6 k hk; omega⟩, h.below h3, h2, h7, h8, by omega, by omega, fun k hk => by have := (hg k hk).1; omega, by omega⟩, h3, h4, h5⟩
theorem known_gc0 : gcO [newO 1 [] [1], newO 1 [] [2]] 3 [] = [] ∧ gcR [newO 1 [] [1], newO 1 [] [2]] 3 [] = [] := ⟨by kernel_rfl, by kernel_rfl⟩
theorem known_gc1 : gcO [newO 1 [] [1], newO 1 [] [2]] 3 [2] = [newO 1 [] [2]] ∧ gcR [newO 1 [] [1], newO 1 [] [2]] 3 [2] = [0] := ⟨by kernel_rfl, by kernel_rfl⟩
set_option maxHeartbeats 8000000 in
set_option maxRecDepth 100000 in
theorem known_any (w : World) : Calls Try.prog 12 #[] w (RetV (.bool true) w) := by
  have H1 := Lib.hid (HL.new (B := w) (Below.refl _ _) 20 (by omega))
  go_enter Try.func12, Try.ntmps12
  go_wp2_with fail
  refine (new_any 20 (by omega) (by omega) w).mono ?_
  rintro e w1 ⟨rfl, hw1⟩
  have e1 : w1 = w.alloc (.cells #[.slice none 0 0, .int .i64 (20 : Nat)] 75) := hw1
  rw [← e1] at H1
  clear hw1 e1
  obtain ⟨b, hb⟩ : ∃ b, b = w.heap.size := ⟨_, rfl⟩
  rw [← hb] at H1 ⊢
  clear hb
  have HA := H1.out.apart (n := 1) (c := 1)
  have H2 := Lib.hid (H1.out.below ((Below.refl _ _).alloc (Nat.le_refl _) (.cells #[.int .i64 1] 3)))
  have F22 := Lib.hid (alloc_yes H2.out.hp 1 [] [1] (.slice none 0 0) (.slice (some ⟨w1.heap.size, 0, none⟩) 1 1) (nil_isS _) (one_isS w1 1) (apart_nil _ _) HA (by intro p hp; cases hp) (by decide) (by decide) (by decide))
  clear HA
  go_wp2_with fail
  refine F22.out.mono ?_
  rintro e w3 hr
  obtain ⟨rfl, G3, h3⟩ := H2.out.turn hr
  have H3 := Lib.hid h3
  clear F22 H2 H1 hr h3
  simp only [pair2]
  have HA := H3.out.apart (n := 1) (c := 1)
  have H4 := Lib.hid (H3.out.below ((Below.refl _ _).alloc (Nat.le_refl _) (.cells #[.int .i64 2] 3)))
  have F22 := Lib.hid (alloc_yes H4.out.hp 1 [] [2] (.slice none 0 0) (.slice (some ⟨w3.heap.size, 0, none⟩) 1 1) (nil_isS _) (one_isS w3 2) (apart_nil _ _) HA (by intro p hp; cases hp) (by decide) (by decide) (by decide))
  clear HA
  go_wp2_with fail
  refine F22.out.mono ?_
  rintro e w5 hr
  obtain ⟨rfl, G5, h5⟩ := H4.out.turn hr
  have H5 : Hid (HL w w5 b G5 [newO 1 [] [1], newO 1 [] [2]] 20) := h5
  clear F22 H4 H3 hr h5
  simp only [pair2]
  have F16 := Lib.hid (collect_yes H5.out.hp 3 (by omega) (.slice none 0 0) [] (nil_isS _) (apart_nil _ _) (by simp) (by simp))
  go_wp2_with fail
  refine F16.out.mono ?_
  rintro e w6 hr
  obtain ⟨b6, g6, G6, rfl, ha6, -, -, -⟩ := H5.out.gc hr
  obtain ⟨h6, h5, h9⟩ := ha6
  rw [known_gc0.1] at h6
  have H6 := Lib.hid h6
  have H5 := Lib.hid h5
  clear F16 hr h6 h5 h9
  simp only [List.length_nil]
  have HA := H5.out.apart (n := 1) (c := 1)
  have H7 := Lib.hid (H5.out.below ((Below.refl _ _).alloc (Nat.le_refl _) (.cells #[.int .i64 2] 3)))
  have H67 := Lib.hid (H6.out.below ((Below.refl _ _).alloc (Nat.le_refl _) (.cells #[.int .i64 2] 3)))
  have F16 := Lib.hid (collect_yes H7.out.hp 3 (by omega) (.slice (some ⟨w6.heap.size, 0, none⟩) 1 1) [2] (one_isS w6 2) HA (by simp) (fun r hr => by rw [List.mem_singleton.1 hr]; exact ⟨newO 1 [] [2], by kernel_rfl⟩))
  clear HA
  go_wp2_with fail
  refine F16.out.mono ?_
  rintro e w8 hr
  obtain ⟨b8, g8, G8, rfl, ha8, hb8, -, -⟩ := H7.out.gc hr
  obtain ⟨h8, -, hi8, -⟩ := ha8
  rw [known_gc1.1] at h8
  rw [known_gc1.2] at hi8
  have H8 := Lib.hid h8
  have H68 := Lib.hid (H67.out.below hb8)
  have c8 := hi8.cell? (j := 0) (v := 0) rfl
  clear F16 hr h8 hi8 hb8 H7 H67 H6 H5
  simp only [List.length_cons, List.length_nil]
  have F0 : Hid (Calls Try.prog 20 #[.pointer (some ⟨b6, 0, none⟩)] w8 fun e w' => e = .returned (.int .i64 0) ∧ w8 = w') := used_any H68.out.hp.1
  have F1 : Hid (Calls Try.prog 20 #[.pointer (some ⟨b8, 0, none⟩)] w8 fun e w' => e = .returned (.int .i64 2) ∧ w8 = w') := used_any H8.out.hp.1
  go_wp2_with fail
  refine F0.out.mono ?_
  rintro e w9 ⟨rfl, rfl⟩
  go_wp2_with fail
  refine F1.out.mono ?_
  rintro e w9 ⟨rfl, rfl⟩
  have HB := Lib.hid H8.out.bel
  clear F0 F1 H68 H8
  go_wp2_with fail
  go_ret
  exact ⟨rfl, HB.out⟩
end Go.Proofs.Ytkekekdkfjjifaa
