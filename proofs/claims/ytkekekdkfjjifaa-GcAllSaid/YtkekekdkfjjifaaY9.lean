/- The document's Collect. -/
import Derived.Test.YtkekekdkfjjifaaZU
namespace Go.Proofs.Ytkekekdkfjjifaa
open Go Go.RowKit
set_option linter.unusedVariables false
set_option linter.unusedSimpArgs false
theorem Fr.cell9 {F : Nat → Prop} {w w' : World} (hf : Fr F w w') {q j : Nat} (hn : ¬ F q) {v : Value} (h : w.cell? ⟨q, j, none⟩ = some v) : w'.cell? ⟨q, j, none⟩ = some v := by
  have hb := hf.block q (World.block_lt_of_cell? w _ h) hn
  rw [← h]
  unfold World.cell?
  simp only [hb]
def RetRc (os : List Ob) (m dp : Nat) (rs : List Int) (w : World) (e : Ending) (w' : World) : Prop :=
  ∃ (y : Nat) (C2 : Nat → Nat) (qs2 : List Nat) (ao : Option Addr) (cap : Nat), e = .returned (.tuple #[.pointer (some ⟨y, 0, none⟩), .slice ao rs.length cap, .bool true]) ∧ RhW w' y C2 qs2 (gcO os dp rs) m ∧ w'.ownsRow w.heap.size 3 1 (.slice ao rs.length cap) rs.length ((gcR os dp rs).map (Value.int .i64)) ∧ Below w.heap.size w w' ∧ ∀ k, C2 k ≠ 0 → w.heap.size ≤ k
def RcR (os : List Ob) (m dp : Nat) (rs : List Int) (w : World) (e : Ending) (w' : World) : Prop :=
  (okR os rs = true → RetRc os m dp rs w e w') ∧ (okR os rs = false → e = .returned (.tuple #[.pointer none, .slice none 0 0, .bool false]) ∧ Below w.heap.size w w')
def RcB (w0 : World) (c x y : Nat) (C1 : Nat → Nat) (qs1 : List Nat) (os : List Ob) (m dp : Nat) (rs : List Int) (v iv : Value) (wr : World) : Prop :=
  ∃ (i : Nat) (C2 : Nat → Nat) (qs2 : List Nat) (Q : List (List Int)) (ov nv : Value), i ≤ rs.length ∧ iv = .int .i64 (i : Int) ∧ Cs w0 wr c x y C1 C2 qs1 qs2 os m dp (vis os dp [] (rs.take i)) Q ov nv v (poss os dp [] (rs.take i)) ∧ QR os (vis os dp [] (rs.take i)) Q 0
def RcC (w0 : World) (c x y : Nat) (C1 : Nat → Nat) (qs1 : List Nat) (os : List Ob) (m dp : Nat) (D0 : List Int) (v : Value) (out : List Int) (iv : Value) (wr : World) : Prop :=
  ∃ (i : Nat) (C2 : Nat → Nat) (qs2 : List Nat) (Q : List (List Int)) (ov nv : Value), iv = .int .i64 (i : Int) ∧ i ≤ os.length ∧ i ≤ (lead os dp D0 i).length ∧ Cs w0 wr c x y C1 C2 qs1 qs2 os m dp (lead os dp D0 i) Q ov nv v out ∧ QD os dp (lead os dp D0 i) Q i ∧ QR os (lead os dp D0 i) Q i
def RcD (w0 : World) (c x y : Nat) (C1 : Nat → Nat) (qs1 : List Nat) (os : List Ob) (m dp : Nat) (D0 : List Int) (a : Int) (i q np : Nat) (v : Value) (out : List Int) (iv : Value) (wr : World) : Prop :=
  ∃ (k : Nat) (D : List Int) (Q : List (List Int)) (C2 : Nat → Nat) (qs2 : List Nat) (ov nv : Value), k ≤ np ∧ iv = .int .i64 (k : Int) ∧ Cs w0 wr c x y C1 C2 qs1 qs2 os m dp D Q ov nv v out ∧ InD os dp D0 a i k D Q ∧ qs2[i]? = some q
theorem row_nth {os : List Ob} {dp : Nat} {D : List Int} {a : Int} {k : Nat} (hk : k < (ptrsOf os a).length) : (((ptrsOf os a).take k).map (fun p => (pos os D (shortO os dp p) : Int)) ++ (ptrsOf os a).drop k).length = (ptrsOf os a).length ∧
    (((ptrsOf os a).take k).map (fun p => (pos os D (shortO os dp p) : Int)) ++ (ptrsOf os a).drop k)[k]? = some (ptrsOf os a)[k] := by
  constructor
  · rw [List.length_append, List.length_map, List.length_take, List.length_drop]; omega
  · rw [List.getElem?_append_right (by rw [List.length_map, List.length_take]; omega), List.length_map, List.length_take, List.getElem?_drop, List.getElem?_eq_some_iff]
    exact ⟨by omega, by congr 1; omega⟩
theorem row_len {os : List Ob} {dp : Nat} {D : List Int} {a : Int} {k : Nat} (hk : k ≤ (ptrsOf os a).length) : (((ptrsOf os a).take k).map (fun p => (pos os D (shortO os dp p) : Int)) ++ (ptrsOf os a).drop k).length = (ptrsOf os a).length := by
  rw [List.length_append, List.length_map, List.length_take, List.length_drop]; omega
theorem okR_vd {os : List Ob} {rs : List Int} (h : okR os rs = true) : ∀ r ∈ rs, Vd os r := by
  unfold okR at h
  rw [List.all_eq_true] at h
  intro r hr
  exact Option.isSome_iff_exists.1 (h r hr)
set_option maxHeartbeats 16000000 in
set_option maxRecDepth 100000 in
theorem rcollect_r {w : World} {x : Nat} {C1 : Nat → Nat} {qs1 : List Nat} {os : List Ob} {m : Nat} (h : Rh w x C1 qs1 os m) (dp : Nat) (hdp : dp ≤ 20) (rv : Value) (rs : List Int) (hr : IsS w rv rs) (hl : rs.length ≤ 1000000) :
    Calls Try.prog 17 #[.pointer (some ⟨x, 0, none⟩), rv, .int .i64 (dp : Int)] w (RcR os m dp rs w) := by
  have HH := Lib.hid h
  have HR := Lib.hid hr
  have hol := total_len os
  have hm : total os ≤ 1000000 := by have := h.room; have := h.most; omega
  have HGD := Lib.hid (fun D0 h1 h2 k => lead_good h.closed h.oks dp (D0 := D0) h1 h2 k)
  obtain ⟨rao, rc, rfl, hcap, hrr⟩ := hr
  obtain ⟨n, hn⟩ : ∃ n, n = rs.length := ⟨_, rfl⟩
  rw [← hn] at hl hcap HR ⊢
  have HN := Lib.hid hn
  have H0 : Hid (ArI os rs w (.int .i64 0) w) := ⟨0, Nat.zero_le _, rfl, rfl, Below.refl _ _⟩
  clear h hn hrr
  go_enter Try.func17, Try.ntmps17
  go_wp2_with fail
  go_loopw [9] (fun iv wr => ArI os rs w iv wr) (fun iv _ => n - (intOf iv).toNat)
  case atStart => exact H0.out
  case round =>
    clear H0
    obtain ⟨j, hj, rfl, hok, hbel⟩ := hrel
    have HOK := Lib.hid hok
    have HBL := Lib.hid hbel
    rw [← HN.out] at hj
    clear hok hbel
    by_cases hjn : j < n
    · have q1 : decide ((j : Int) < (n : Int)) = true := decide_eq_true (by omega)
      have hjl : j < rs.length := by rw [← HN.out]; exact hjn
      obtain ⟨ao', cap', e1, _, hr⟩ := HR.out.below HBL.out
      injection e1 with e1 e2 e3
      rcases hr with ⟨_, e⟩ | ⟨gl, ol, e4, hcl⟩
      · rw [e] at hjl; simp at hjl
      · rw [← e1] at e4
        subst e4
        have cl := hcl j hjl
        obtain ⟨a, ha⟩ : ∃ a, a = rs[j] := ⟨_, rfl⟩
        rw [← ha] at cl
        have F37 := Lib.hid (rtag_r (HH.out.below HBL.out) a)
        have HT := Lib.hid (tag_zero HH.out.oks a)
        have HTK : Hid (rs.take (j + 1) = rs.take j ++ [a]) := by show _ = _; rw [List.take_succ_eq_append_getElem hjl, ha]
        clear hcl e1 e2 e3
        cases ho : (ob os a).isSome with
        | false =>
          have q0 : (((hdo os a).t : Int) == 0) = true := by rw [HT.out, ho]; rfl
          have HF : Hid (okR os rs = false) := by
            show _ = _
            unfold okR
            rw [List.all_eq_false]
            exact ⟨rs[j], List.getElem_mem _, by rw [← ha, ho]; decide⟩
          clear ha HT
          go_wp2_with fail
          refine F37.out.mono ?_
          rintro e w2 ⟨rfl, hb2⟩
          have HB2 := Lib.hid (HBL.out.trans (hb2.mono HBL.out.size))
          clear hb2
          go_wp2_with fail
          go_ret3
          exact ⟨fun h => (by rw [HF.out] at h; cases h), fun _ => ⟨rfl, HB2.out⟩⟩
        | true =>
          have q0 : (((hdo os a).t : Int) == 0) = false := by rw [HT.out, ho]; rfl
          have HO9 : Hid (okR os (rs.take (j + 1)) = true) := by
            show _ = _
            have := HOK.out
            rw [HTK.out]; unfold okR at this ⊢; rw [List.all_append, this]; simp [ho]
          clear ha HT
          go_wp2_with fail
          refine F37.out.mono ?_
          rintro e w2 ⟨rfl, hb2⟩
          have HREL : Hid (ArI os rs w (.int .i64 ((j : Int) + 1)) w2) := ⟨j + 1, hjl, by go_num, HO9.out, HBL.out.trans (hb2.mono HBL.out.size)⟩
          clear hb2
          go_wp2_with fail
          go_roundw
          case rel => exact HREL.out
          case measure => simp [intOf]; omega
    · have hjn2 : j = n := by omega
      have q1 : decide ((j : Int) < (n : Int)) = false := decide_eq_false (by omega)
      have HOKR : Hid (okR os rs = true) := by have := HOK.out; rw [hjn2, HN.out, List.take_length] at this; exact this
      have HV := Lib.hid (okR_vd HOKR.out)
      obtain ⟨w1, hw1⟩ : ∃ w1, w1 = wr := ⟨_, rfl⟩
      rw [← hw1] at HBL ⊢
      have F38 := Lib.hid (rwords_r (HH.out.below HBL.out))
      have F30 := Lib.hid (new_r (m : Int) w1)
      have HNW := Lib.hid (fun w2 w3 h2 h3 => Cs.new (w2 := w2) (w3 := w3) (dp := dp) HH.out HBL.out h2 h3)
      clear hw1 HOK hjn2
      go_wp2_with fail
      refine F38.out.mono ?_
      rintro e w1' ⟨rfl, rfl⟩
      clear F38
      go_wp2_with fail
      refine F30.out.mono ?_
      rintro e w2 ⟨rfl, hw2⟩
      obtain ⟨C2, hcs⟩ := HNW.out w2 _ hw2 rfl
      have H0 : Hid (RcB w w2.heap.size x w1.heap.size C1 qs1 os m dp rs (.slice none 0 0) (.int .i64 0) (w2.alloc (.cells #[.pointer (some ⟨x, 0, none⟩), .pointer (some ⟨w1.heap.size, 0, none⟩), .int .i64 (dp : Nat), .slice none 0 0, .slice none 0 0] 64))) :=
        ⟨0, C2, [], [], .slice none 0 0, .slice none 0 0, Nat.zero_le _, rfl, hcs, fun j a hj ha => (by have ha2 : ([] : List Int)[j]? = some a := ha; simp at ha2)⟩
      clear hcs hw2 HNW F30
      go_wp2_with fail
      generalize w2.alloc (.cells #[.pointer (some ⟨x, 0, none⟩), .pointer (some ⟨w1.heap.size, 0, none⟩), .int .i64 (dp : Nat), .slice none 0 0, .slice none 0 0] 64) = W3 at H0 ⊢
      generalize w2.heap.size = c at H0 ⊢
      generalize w1.heap.size = y at H0 ⊢
      clear w2 HBL w1 C2
      go_loopw [11, 12] (fun v iv wr => RcB w c x y C1 qs1 os m dp rs v iv wr) (fun _ iv _ => n - (intOf iv).toNat)
      case atStart => exact H0.out
      case round =>
        clear H0
        obtain ⟨i, C2, qs2, Q, ov, nv, hi, rfl, hcs, hqr⟩ := hrel
        rw [← HN.out] at hi
        have HC := Lib.hid hcs
        have HQR := Lib.hid hqr
        clear hcs hqr
        by_cases hin : i < n
        · have q1 : decide ((i : Int) < (n : Int)) = true := decide_eq_true (by omega)
          have hil : i < rs.length := by rw [← HN.out]; exact hin
          obtain ⟨ao', cap', e1, _, hr⟩ := HR.out.below HC.out.bel
          injection e1 with e1 e2 e3
          rcases hr with ⟨_, e⟩ | ⟨gl, ol, e4, hcl⟩
          · rw [e] at hil; simp at hil
          · rw [← e1] at e4
            subst e4
            have cl := hcl i hil
            obtain ⟨a, ha⟩ : ∃ a, a = rs[i] := ⟨_, rfl⟩
            rw [← ha] at cl
            have HAV : Hid (Vd os a) := by rw [ha]; exact HV.out _ (List.getElem_mem _)
            have HTK : Hid (rs.take (i + 1) = rs.take i ++ [a]) := by show _ = _; rw [List.take_succ_eq_append_getElem hil, ha]
            have F39 := Lib.hid (copied_d HC.out.dc hdp a HAV.out)
            clear hcl e1 e2 e3 ha
            go_wp2_with fail
            refine F39.out.mono ?_
            rintro e w4 hr
            obtain ⟨rfl, C3, qs3, R, ov3, nv3, hcs, hR, -, -⟩ := HC.out.copied hr
            have hqr3 := HQR.out.more HC.out.dc.lk.len hR
            rw [← vis_snoc, ← HTK.out] at hcs hqr3
            have HP : Hid (poss os dp [] (rs.take (i + 1)) = poss os dp [] (rs.take i) ++ [(pos os (addD (vis os dp [] (rs.take i)) (shortO os dp a)) (shortO os dp a) : Int)]) := by show _ = _; rw [HTK.out, poss_snoc, pos_addD]
            obtain ⟨p, hp⟩ : ∃ p : Nat, p = pos os (addD (vis os dp [] (rs.take i)) (shortO os dp a)) (shortO os dp a) := ⟨_, rfl⟩
            rw [← hp] at HP ⊢
            clear hr hR hp F39 HC HQR
            have HSR := Lib.hid (srcA_one (d := .int .i64 (p : Int)) (T := 3) (alloc_at w4 (.cells #[.int .i64 (p : Int)] 3)) rfl 1)
            have hA9 : Below w4.heap.size w4 (w4.alloc (.cells #[.int .i64 (p : Int)] 3)) := (Below.refl _ _).alloc (Nat.le_refl _) _
            have HC9 := Lib.hid (hcs.below hA9)
            have HQ9 := Lib.hid hqr3
            have hsz2 : w.heap.size ≤ (w4.alloc (.cells #[.int .i64 (p : Int)] 3)).heap.size := HC9.out.bel.size
            have hi9 : i + 1 ≤ 1000000000 := by omega
            obtain ⟨RM, hRM⟩ : ∃ RM, RM = (poss os dp [] (rs.take i)).map (Value.int .i64) := ⟨_, rfl⟩
            have HRM := Lib.hid hRM
            have HOW : Hid ((w4.alloc (.cells #[.int .i64 (p : Int)] 3)).ownsRow w.heap.size 3 1 u11 i RM) := by
              have h1 := HC9.out.bs.own
              rw [poss_len, List.length_take, Nat.min_eq_left (by rw [← HN.out]; omega), ← hRM] at h1
              exact h1
            have HL1 : Hid ((poss os dp [] (rs.take (i + 1))).length = i + 1) := by show _ = _; rw [poss_len, List.length_take, Nat.min_eq_left (by rw [← HN.out]; omega)]
            clear hRM hcs hqr3 hA9
            go_wp2_with (refine wpList_wantedR (by rfl) fun K hK => ?_; refine wp_appI (Operand.tmp 42) (Operand.tmp 49) rfl w.heap.size u11 i RM rfl HOW.out (.slice (some ⟨w4.heap.size, 0, none⟩) 1 1) rfl 1 _ HSR.out hi9 hsz2 ?_; intro v9 w9 hown9 hg9 hv9; have HREL : Hid (RcB w c x y C1 qs1 os m dp rs v9 (.int .i64 ((i : Int) + 1)) w9) := ⟨i + 1, C3, qs2 ++ qs3, Q ++ R, ov3, nv3, hil, (by go_num), HC9.out.grow (by rw [HL1.out, HP.out, List.map_append, ← HRM.out]; exact hown9) hg9 hv9, HQ9.out⟩; clear hown9 hg9 hv9 HOW HSR HC9; refine hK _ _ ?_; clear hK K)
            go_roundw
            case rel => exact HREL.out
            case measure => simp [intOf]; omega
        · have hin2 : i = n := by omega
          have q1 : decide ((i : Int) < (n : Int)) = false := decide_eq_false (by omega)
          obtain ⟨D0, hD0⟩ : ∃ D0, D0 = vis os dp [] rs := ⟨_, rfl⟩
          have HD0 := Lib.hid hD0
          have H1 : Hid (Cs w wr c x y C1 C2 qs1 qs2 os m dp D0 Q ov nv u11 (poss os dp [] rs)) := by have := HC.out; rw [hin2, HN.out, List.take_length, ← hD0] at this; exact this
          have hqr : QR os D0 Q 0 := by have := HQR.out; rw [hin2, HN.out, List.take_length, ← hD0] at this; exact this
          have H0 : Hid (RcC w c x y C1 qs1 os m dp D0 u11 (poss os dp [] rs) (.int .i64 0) wr) := ⟨0, C2, qs2, Q, ov, nv, rfl, Nat.zero_le _, Nat.zero_le _, H1.out, QD.zero _ _ _ _, hqr⟩
          have HGD0 := Lib.hid (fun k => HGD.out D0 H1.out.dc.nd H1.out.dc.vd k)
          obtain ⟨PO, hPO⟩ : ∃ PO, PO = poss os dp [] rs := ⟨_, rfl⟩
          rw [← hPO] at H0
          have HPO := Lib.hid hPO
          clear H1 hqr HC HQR hD0 hin2 hi hPO HGD
          go_wp2_with fail
          obtain ⟨ws, hws⟩ : ∃ ws, ws = wr := ⟨_, rfl⟩
          rw [← hws] at H0 ⊢
          clear hws wr
          go_loopw [13] (fun iv wr => RcC w c x y C1 qs1 os m dp D0 u11 PO iv wr) (fun iv _ => os.length + 1 - (intOf iv).toNat)
          case atStart => exact H0.out
          case round =>
            clear H0
            obtain ⟨i, C2, qs2, Q, ov, nv, rfl, hio, hil, hcs, hqd, hqr⟩ := hrel
            have HC := Lib.hid hcs
            have HQD := Lib.hid hqd
            have HQR := Lib.hid hqr
            have hgd := HGD0.out i
            have hlo := len_total hgd.1 hgd.2
            obtain ⟨DL, hDL⟩ : ∃ DL, DL = (lead os dp D0 i).length := ⟨_, rfl⟩
            rw [← hDL] at hlo hil
            have HDL := Lib.hid hDL
            obtain ⟨-, c1, -⟩ := hcs.dc.cells
            obtain ⟨lao, lcap, -, -, c2, -, -, -, hrow⟩ := hcs.dc.dst.cells
            rw [cps_len hcs.dc.lk, ← hDL] at c2
            have hql : qs2.length = DL := by rw [hDL, ← cps_len hcs.dc.lk]; exact hcs.dc.dst.len
            clear hcs hqd hqr hgd hDL
            by_cases hiD : i < DL
            · have q1 : decide ((i : Int) < (DL : Int)) = true := decide_eq_true (by omega)
              have hiL : i < (lead os dp D0 i).length := by rw [← HDL.out]; exact hiD
              have hiq : i < qs2.length := by omega
              obtain ⟨gL, rfl, cq⟩ := hrow i hiq
              have HQI : Hid (qs2[i]? = some qs2[i]) := List.getElem?_eq_getElem hiq
              generalize qs2[i] = q at cq HQI
              obtain ⟨a, ha⟩ : ∃ a, a = (lead os dp D0 i)[i] := ⟨_, rfl⟩
              have HAV : Hid (Vd os a) := by rw [ha]; exact (HGD0.out i).2 _ (List.getElem_mem _)
              have HAT : Hid ((lead os dp D0 i)[i]? = some a) := by show _ = _; rw [List.getElem?_eq_getElem hiL, ha]
              have HLN : Hid (lead os dp D0 (i + 1) = vis os dp (lead os dp D0 i) (ptrsOf os a)) := by rw [ha]; exact lead_some hiL
              have hpl60 : (ptrsOf os a).length ≤ 60 := by
                obtain ⟨z, hz⟩ := HAV.out
                have := (HH.out.oks z (ob_mem hz)).p
                rw [ptrsOf_ob hz]; unfold Ob.ptrs; rw [List.length_take]; omega
              have HPV : Hid (∀ p ∈ ptrsOf os a, Vd os p) := ptrsOf_valid HH.out.closed
              obtain ⟨np, hnp⟩ : ∃ np, np = (ptrsOf os a).length := ⟨_, rfl⟩
              rw [← hnp] at hpl60
              have HNP := Lib.hid hnp
              have HDD : Hid (RcD w c x y C1 qs1 os m dp (lead os dp D0 i) a i q np u11 PO (.int .i64 0) wr) := ⟨0, _, Q, C2, qs2, ov, nv, Nat.zero_le _, rfl, HC.out, InD.start HAT.out HQD.out HQR.out HC.out.dc.lk.len, HQI.out⟩
              clear ha hnp hrow HQD HQR HQI HC hiq hql
              go_wp2_with fail
              obtain ⟨ws, hws⟩ : ∃ ws, ws = wr := ⟨_, rfl⟩
              rw [← hws] at HDD ⊢
              clear hws c1 c2 cq wr
              go_loopw [15] (fun iv wr => RcD w c x y C1 qs1 os m dp (lead os dp D0 i) a i q np u11 PO iv wr) (fun iv _ => np - (intOf iv).toNat)
              case atStart => exact HDD.out
              case round =>
                clear HDD
                obtain ⟨k, D, Q, C2, qs2, ov, nv, hk, rfl, hcs, hin, hqi⟩ := hrel
                have HC := Lib.hid hcs
                have HIN := Lib.hid hin
                have HQI := Lib.hid hqi
                obtain ⟨hCq, hqw, pa, pc, hc2, hown, hCg⟩ := hcs.dc.objAt hin.ha hin.row hqi
                rw [row_len (by rw [← HNP.out]; exact hk), ← HNP.out] at hc2 hown hCg
                have HOW := Lib.hid hown
                have HCG := Lib.hid hCg
                have HCQ := Lib.hid hCq
                clear hcs hin hqi hown hCg hCq
                by_cases hkn : k < np
                · have q1 : decide ((k : Int) < (np : Int)) = true := decide_eq_true (by omega)
                  have hkp : k < (ptrsOf os a).length := by rw [← HNP.out]; exact hkn
                  obtain ⟨g, cg9, e1, -, -, -, hcg⟩ := own_at HOW.out (by omega)
                  injection e1 with e1 e2 e3
                  subst e1
                  clear e2 e3
                  have HRN := Lib.hid (row_nth (dp := dp) (D := D) hkp)
                  have cgk : wr.cell? ⟨g, k, none⟩ = some (.int .i64 (ptrsOf os a)[k]) := by
                    obtain ⟨h1, h2⟩ := List.getElem?_eq_some_iff.1 HRN.out.2
                    rw [← h2]; exact hcg k h1
                  have HST := Lib.hid (fun R hR => HIN.out.step (R := R) hkp (List.getElem?_eq_some_iff.1 HIN.out.ha).1 hR)
                  have F39 := Lib.hid (fun (W : World) (hb : Below wr.heap.size wr W) => copied_d (HC.out.below hb).dc hdp (ptrsOf os a)[k] (HPV.out _ (List.getElem_mem _)))
                  have HROW := Lib.hid HIN.out.row
                  obtain ⟨l, hl⟩ : ∃ l, l = ((ptrsOf os a).take k).map (fun p => (pos os D (shortO os dp p) : Int)) ++ (ptrsOf os a).drop k := ⟨_, rfl⟩
                  rw [← hl] at HST HROW HRN
                  have HLL : Hid (l.length = np) := HRN.out.1.trans HNP.out.symm
                  obtain ⟨p, hp⟩ : ∃ p, p = (ptrsOf os a)[k] := ⟨_, rfl⟩
                  simp only [← hp] at HST F39
                  rw [← hp] at cgk
                  have HGQ : Hid (C2 q = 3 * i + 3 ∧ C2 g = 3 * i + 4) := ⟨HCQ.out, HCG.out g rfl⟩
                  clear hcg hl hp HRN HOW HCG HCQ
                  go_wp2_with fail
                  have HCB : Hid (Below wr.heap.size wr wr.drew) := (Below.refl _ _).drew
                  refine wp_region_noPanic ?_
                  refine wp_region_late (S := fun W => W.cell? ⟨q, 2, none⟩ = some (.slice (some ⟨g, 0, none⟩) np pc) ∧ W.cell? ⟨g, k, none⟩ = some (.int .i64 p)) (fun i => i == 15) (by kernel_rfl) ⟨hc2, cgk⟩ (fun hHeld => ?_)
                  generalize wr.drew = X at HCB hHeld ⊢
                  refine wpAnyL_take (B := [1, 2, 3, 14, 15]) (i := 0) (v := ?v1) rfl (by kernel_rfl) (by kernel_rfl) (by kernel_rfl) (by kernel_rfl) (fun _ _ _ h => h) (Or.inl ⟨rfl, fun w' hw' => ?h1⟩) hHeld ?r1
                  case h1 =>
                    (go_simp; try omega)
                    try with_reducible rfl
                  simp only [List.getElem_toArray, List.getElem_cons_succ, List.getElem_cons_zero, Act.put, List.setIfInBounds_toArray, List.set_cons_zero, List.set_cons_succ]
                  refine wpAnyL_take (B := [2, 3, 14, 15]) (i := 1) (v := ?v3) rfl (by kernel_rfl) (by kernel_rfl) (by kernel_rfl) (by kernel_rfl) (fun _ _ _ h => h) (Or.inl ⟨rfl, fun w' hw' => ?h3⟩) hHeld ?r3
                  case h3 =>
                    (go_simp; try omega)
                    try with_reducible rfl
                  simp only [List.getElem_toArray, List.getElem_cons_succ, List.getElem_cons_zero, Act.put, List.setIfInBounds_toArray, List.set_cons_zero, List.set_cons_succ]
                  refine wpAnyL_take (B := [3, 14, 15]) (i := 2) (v := ?v5) rfl (by kernel_rfl) (by kernel_rfl) (by kernel_rfl) (by kernel_rfl) (fun _ _ _ h => h) (Or.inl ⟨rfl, fun w' hw' => ?h5⟩) hHeld ?r5
                  case h5 =>
                    (go_simp; try omega)
                    try with_reducible rfl
                  simp only [List.getElem_toArray, List.getElem_cons_succ, List.getElem_cons_zero, Act.put, List.setIfInBounds_toArray, List.set_cons_zero, List.set_cons_succ]
                  refine wpAnyL_take (B := [14, 15]) (i := 3) (v := ?v7) rfl (by kernel_rfl) (by kernel_rfl) (by kernel_rfl) (by kernel_rfl) (fun _ _ _ h => h) (Or.inl ⟨rfl, fun w' hw' => ?h7⟩) hHeld ?r7
                  case h7 =>
                    (obtain ⟨d0, _⟩ := hw'; go_simp)
                    try with_reducible rfl
                  simp only [List.getElem_toArray, List.getElem_cons_succ, List.getElem_cons_zero, Act.put, List.setIfInBounds_toArray, List.set_cons_zero, List.set_cons_succ]
                  refine wpAnyL_take (B := [14, 15]) (i := 4) (v := ?v9) rfl (by kernel_rfl) (by kernel_rfl) (by kernel_rfl) (by kernel_rfl) (fun _ _ _ h => h) (Or.inl ⟨rfl, fun w' hw' => ?h9⟩) hHeld ?r9
                  case h9 =>
                    (go_simp; try omega)
                    try with_reducible rfl
                  simp only [List.getElem_toArray, List.getElem_cons_succ, List.getElem_cons_zero, Act.put, List.setIfInBounds_toArray, List.set_cons_zero, List.set_cons_succ]
                  refine wpAnyL_take (B := [13, 14, 15]) (i := 5) (v := ?v11) rfl (by kernel_rfl) (by kernel_rfl) (by kernel_rfl) (by kernel_rfl) (fun _ _ _ h => h) (Or.inl ⟨rfl, fun w' hw' => ?h11⟩) hHeld ?r11
                  case h11 =>
                    (go_simp; try omega)
                    try with_reducible rfl
                  simp only [List.getElem_toArray, List.getElem_cons_succ, List.getElem_cons_zero, Act.put, List.setIfInBounds_toArray, List.set_cons_zero, List.set_cons_succ]
                  refine wpAnyL_take (B := [7, 8, 9, 11, 12, 13, 14, 15]) (i := 6) (v := ?v13) rfl (by kernel_rfl) (by kernel_rfl) (by kernel_rfl) (by kernel_rfl) (fun _ _ _ h => h) (Or.inl ⟨rfl, fun w' hw' => ?h13⟩) hHeld ?r13
                  case h13 =>
                    (go_simp; try omega)
                    try with_reducible rfl
                  simp only [List.getElem_toArray, List.getElem_cons_succ, List.getElem_cons_zero, Act.put, List.setIfInBounds_toArray, List.set_cons_zero, List.set_cons_succ]
                  refine wpAnyL_take (B := [8, 9, 11, 12, 13, 14, 15]) (i := 7) (v := ?v15) rfl (by kernel_rfl) (by kernel_rfl) (by kernel_rfl) (by kernel_rfl) (fun _ _ _ h => h) (Or.inl ⟨rfl, fun w' hw' => ?h15⟩) hHeld ?r15
                  case h15 =>
                    (go_simp; try omega)
                    try with_reducible rfl
                  simp only [List.getElem_toArray, List.getElem_cons_succ, List.getElem_cons_zero, Act.put, List.setIfInBounds_toArray, List.set_cons_zero, List.set_cons_succ]
                  refine wpAnyL_take (B := [9, 11, 12, 13, 14, 15]) (i := 8) (v := ?v17) rfl (by kernel_rfl) (by kernel_rfl) (by kernel_rfl) (by kernel_rfl) (fun _ _ _ h => h) (Or.inl ⟨rfl, fun w' hw' => ?h17⟩) hHeld ?r17
                  case h17 =>
                    (go_simp; try omega)
                    try with_reducible rfl
                  simp only [List.getElem_toArray, List.getElem_cons_succ, List.getElem_cons_zero, Act.put, List.setIfInBounds_toArray, List.set_cons_zero, List.set_cons_succ]
                  refine wpAnyL_take (B := [11, 12, 13, 14, 15]) (i := 9) (v := ?v19) rfl (by kernel_rfl) (by kernel_rfl) (by kernel_rfl) (by kernel_rfl) (fun _ _ _ h => h) (Or.inl ⟨rfl, fun w' hw' => ?h19⟩) hHeld ?r19
                  case h19 =>
                    (obtain ⟨d0, _⟩ := hw'; go_simp)
                    try with_reducible rfl
                  simp only [List.getElem_toArray, List.getElem_cons_succ, List.getElem_cons_zero, Act.put, List.setIfInBounds_toArray, List.set_cons_zero, List.set_cons_succ]
                  refine wpAnyL_take (B := [11, 12, 13, 14, 15]) (i := 10) (v := ?v21) rfl (by kernel_rfl) (by kernel_rfl) (by kernel_rfl) (by kernel_rfl) (fun _ _ _ h => h) (Or.inl ⟨rfl, fun w' hw' => ?h21⟩) hHeld ?r21
                  case h21 =>
                    (go_simp; try omega)
                    try with_reducible rfl
                  simp only [List.getElem_toArray, List.getElem_cons_succ, List.getElem_cons_zero, Act.put, List.setIfInBounds_toArray, List.set_cons_zero, List.set_cons_succ]
                  refine wpAnyL_take (B := [12, 13, 14, 15]) (i := 11) (v := Value.pointer (some ⟨g, k, none⟩)) rfl (by kernel_rfl) (by kernel_rfl) (by kernel_rfl) (by kernel_rfl) (fun _ _ _ h => h) (Or.inl ⟨rfl, fun w' hw' => ?_⟩) hHeld ?_
                  · (go_simp; try omega)
                  simp only [List.getElem_toArray, List.getElem_cons_succ, List.getElem_cons_zero, Act.put, List.setIfInBounds_toArray, List.set_cons_zero, List.set_cons_succ]
                  refine wpAnyL_take (B := [13, 14, 15]) (i := 12) (v := ?v25) rfl (by kernel_rfl) (by kernel_rfl) (by kernel_rfl) (by kernel_rfl) (fun _ _ _ h => h) (Or.inl ⟨rfl, fun w' hw' => ?h25⟩) hHeld ?r25
                  case h25 =>
                    (obtain ⟨_, d0⟩ := hw'; go_simp)
                    try with_reducible rfl
                  simp only [List.getElem_toArray, List.getElem_cons_succ, List.getElem_cons_zero, Act.put, List.setIfInBounds_toArray, List.set_cons_zero, List.set_cons_succ]
                  refine wpAnyL_ready (rs := [13]) (by kernel_rfl) (by simp) ?_
                  refine (AllL.cons rfl rfl (fun K hK => ?_) AllL.nil)
                  go_simp
                  refine (F39.out X HCB.out).mono ?_
                  rintro e9 w5 hr
                  obtain ⟨rfl, C3, qs3, R, ov3, nv3, hcs, hR, hfr, hold⟩ := (HC.out.below HCB.out).copied hr
                  have hnF : ∀ z, 3 ≤ C2 z → ¬ (C2 z = 1 ∨ C2 z = 2 ∨ z = c ∨ ov.ownBlock = some z ∨ nv.ownBlock = some z) := fun z hz e => by
                    rcases e with e | e | e | e | e
                    · omega
                    · omega
                    · rw [e, HC.out.dc.cc.2.1] at hz; omega
                    · have := (HC.out.dc.oc z e).2.1; omega
                    · have := (HC.out.dc.nc z e).2.1; omega
                  have d5 : w5.cell? ⟨q, 2, none⟩ = some (.slice (some ⟨g, 0, none⟩) np pc) := hfr.cell9 (hnF q (by rw [HGQ.out.1]; omega)) hHeld.1
                  have g5 : w5.cell? ⟨g, k, none⟩ = some (.int .i64 p) := hfr.cell9 (hnF g (by rw [HGQ.out.2]; omega)) hHeld.2
                  have hqi5 : (qs2 ++ qs3)[i]? = some q := by rw [List.getElem?_append_left (List.getElem?_eq_some_iff.1 HQI.out).1]; exact HQI.out
                  have hD5 : (addD D (shortO os dp p))[i]? = some a := by
                    obtain ⟨E, hE⟩ := addD_ext D (shortO os dp p)
                    rw [hE, List.getElem?_append_left (List.getElem?_eq_some_iff.1 HIN.out.ha).1]; exact HIN.out.ha
                  have hl5 : (Q ++ R)[i]? = some l := by rw [List.getElem?_append_left (List.getElem?_eq_some_iff.1 HROW.out).1]; exact HROW.out
                  have HF5 : Hid (w5.frozen? ⟨g, k, none⟩ = false) := by
                    obtain ⟨-, -, pa5, pc5, x1, x2, -⟩ := hcs.dc.objAt hD5 hl5 hqi5
                    rw [HLL.out] at x1 x2
                    rw [d5] at x1
                    injection x1 with x1
                    injection x1 with x3 x4 x5
                    subst x3
                    obtain ⟨g9, c9, e9, -, -, hfz, -⟩ := own_at x2 (by omega)
                    injection e9 with e9 _ _
                    injection e9 with e9
                    injection e9 with e9 _
                    rw [e9]; exact hfz k
                  have HREL : Hid (RcD w c x y C1 qs1 os m dp (lead os dp D0 i) a i q np u11 PO (.int .i64 ((k : Int) + 1)) (w5.setCell ⟨g, k, none⟩ (.int .i64 (pos os (addD D (shortO os dp p)) (shortO os dp p) : Nat)))) :=
                    ⟨k + 1, _, _, C3, qs2 ++ qs3, ov3, nv3, hkn, by go_num, hcs.ptr hD5 hl5 hqi5 d5 k (by rw [HLL.out]; exact hkn) _, HST.out R hR, hqi5⟩
                  obtain ⟨z, hz⟩ : ∃ z : Nat, z = pos os (addD D (shortO os dp p)) (shortO os dp p) := ⟨_, rfl⟩
                  rw [← hz] at HREL ⊢
                  clear hr hcs hR hfr hold hnF hqi5 hD5 hl5 hz
                  refine hK.out _ _ ⟨d5, g5⟩ (fun hHeld => ?_)
                  clear d5
                  clear hK K
                  try simp only [List.getElem_toArray, List.getElem_cons_succ, List.getElem_cons_zero, Act.put, List.setIfInBounds_toArray, List.set_cons_zero, List.set_cons_succ]
                  refine wpAnyL_take (B := [15]) (i := 14) (v := Value.pointer (some ⟨g, k, none⟩)) rfl (by kernel_rfl) (by kernel_rfl) (by kernel_rfl) (by kernel_rfl) (fun _ _ _ h => h) (Or.inl ⟨rfl, fun w' hw' => ?_⟩) hHeld ?_
                  · (go_simp; try omega)
                  simp only [List.getElem_toArray, List.getElem_cons_succ, List.getElem_cons_zero, Act.put, List.setIfInBounds_toArray, List.set_cons_zero, List.set_cons_succ]
                  refine wpAnyL_ready (rs := [15]) (by kernel_rfl) (by simp) ?_
                  refine (AllL.last (S2 := fun _ => True) rfl rfl (fun K hK => ?_) AllL.nil)
                  have f5 := HF5.out
                  go_simp
                  refine hK.out _ _ trivial (fun hHeld => ?_)
                  clear g5 f5
                  clear hK K
                  try simp only [List.getElem_toArray, List.getElem_cons_succ, List.getElem_cons_zero, Act.put, List.setIfInBounds_toArray, List.set_cons_zero, List.set_cons_succ]
                  refine wpAnyH_done (by kernel_rfl) ?_ _
                  refine NoPanic.normal ?_
                  clear hHeld
                  clear hc2 cgk
                  go_wp2_with fail
                  go_roundw
                  case rel => exact HREL.out
                  case measure => simp [intOf]; omega
                · have hkn2 : k = np := by omega
                  have q1 : decide ((k : Int) < (np : Int)) = false := decide_eq_false (by omega)
                  have HREL : Hid (RcC w c x y C1 qs1 os m dp D0 u11 PO (.int .i64 ((i : Int) + 1)) wr) := by
                    have h1 := HIN.out
                    rw [hkn2, HNP.out] at h1
                    obtain ⟨h2, h3, h4⟩ := h1.fin
                    have h5 := HC.out
                    rw [h2, ← HLN.out] at h5 h3 h4
                    have h6 := (HGD0.out (i + 1))
                    have h7 : i + 1 ≤ (lead os dp D0 (i + 1)).length := by
                      obtain ⟨E, hE⟩ := lead_step os dp D0 i
                      rw [hE, List.length_append, ← HDL.out]; omega
                    exact ⟨i + 1, C2, qs2, Q, ov, nv, by go_num, by omega, h7, h5, h3, h4⟩
                  clear HIN HC HQI HOW HCG HCQ
                  go_wp2_with fail
                  go_roundw
                  case rel => exact HREL.out
                  case measure => simp [intOf]; omega
            · have q1 : decide ((i : Int) < (DL : Int)) = false := decide_eq_false (by omega)
              have HF : Hid (lead os dp D0 i = allD os dp rs) := by
                obtain ⟨z, hz⟩ : ∃ z, os.length = i + z := ⟨os.length - i, by omega⟩
                show _ = _
                unfold allD
                rw [← HD0.out, hz]
                have h9 : (lead os dp D0 i).length ≤ i := by rw [← HDL.out]; omega
                exact (lead_stop h9 z).symm
              obtain ⟨ao, cap, hu⟩ := own_sform HC.out.bs.own
              have HFIN : Hid (RcR os m dp rs w (.returned (.tuple #[.pointer (some ⟨y, 0, none⟩), u11, .bool true])) wr) := by
                refine ⟨fun _ => ?_, fun e => (by rw [HOKR.out] at e; cases e)⟩
                have h1 := HC.out.bs.own
                have h2 : PO = gcR os dp rs := by rw [HPO.out, gcR_poss]
                have h3 : PO.length = rs.length := by rw [HPO.out, poss_len]
                rw [h3] at hu h1
                rw [hu] at h1
                rw [h2] at h1
                have h4 : Q = finQ os dp (lead os dp D0 i) := HQD.out.all (by rw [← HDL.out]; omega) HC.out.dc.lk.len
                have h5 := HC.out.dc.dst
                rw [h4, HF.out] at h5
                exact ⟨y, C2, qs2, ao, cap, by rw [hu], h5, h1, HC.out.bel, HC.out.dc.low⟩
              clear HC HQD HQR HF hu hrow hql
              go_wp2_with fail
              go_ret3
              exact HFIN.out
end Go.Proofs.Ytkekekdkfjjifaa
