/- The document's Read. -/
import Derived.Test.YtahdiknkcgnieaaDoorQ16
namespace Go.Proofs.YtahdiknkcgnieaaDoor
open Go.RowKit Go.BigM
set_option linter.unusedVariables false
set_option linter.unusedSimpArgs false
def RdI (g : Nat) (s : ByteArray) (R : Rs) (w wr : World) : Prop := ∃ (D : Nat → Prop) (p : Nat) (es : List En) (out : List Dt) (e : En) (r : List En) (n : Nat),
  RdAt D wr.heap.size wr g s p es out ∧ Below g w wr ∧ g < wr.heap.size ∧ p ≤ s.size ∧ Bnd es out p ∧ e :: r = stk es out ∧ rd s.data.toList n .next p e r = some R
theorem gap_not {s : ByteArray} {p : Nat} (h : gapAt s false p ≤ s.size) : p + gapOf false (s.data.toList.drop p) = gapAt s false p := rfl
theorem RdAt.out_lat {D : Nat → Prop} {N : Nat} {w : World} {g : Nat} {s : ByteArray} {p : Nat} {es : List En} {out : List Dt} (h : RdAt D N w g s p es out) {ov dv : Value} (hr : Rs3 w g s p ov dv) : LAt (fun x => g ≤ x) w dv out := by
  obtain ⟨ov2, dv2, xs, hR, ho, hd, hD, _⟩ := h
  unfold Rs3 at hr hR
  rw [hR] at hr
  injection hr with hr
  injection hr with hr _ _
  simp only [Array.mk.injEq, List.cons.injEq, and_true, true_and] at hr
  obtain ⟨_, rfl⟩ := hr
  exact hd.lat.mono (fun x hx => by
    rcases hx with h | h
    · have := (hD x h).1; omega
    · have := (hd.lt h).1; omega)
set_option maxHeartbeats 16000000 in
set_option maxRecDepth 100000 in
theorem ref_read_any (s : ByteArray) (w : World) (hs : s.size ≤ 8000) (n : Nat) (R : Rs) (hR : rd s.data.toList n .next 0 ⟨0, false, []⟩ [] = some R) :
    Calls Tryd.prog 17 #[.string s] w (RetRead w R) := by
  have HST0 : Hid (RdI w.heap.size s R w (w.alloc (.cells #[.string s, .int .i64 0, .slice none 0 0, .slice none 0 0] 71))) :=
    ⟨_, 0, [], [], ⟨0, false, []⟩, [], n, by rw [show (w.alloc (.cells #[.string s, .int .i64 0, .slice none 0 0, .slice none 0 0] 71)).heap.size = w.heap.size + 1 by simp]; exact RdAt.start w s, (Below.refl _ _).alloc (Nat.le_refl _) _, by simp, Nat.zero_le _, ⟨fun x hx => absurd hx (by simp), by simp, by simp⟩, rfl, hR⟩
  have q0 : decide (8000 < (s.size : Int)) = false := decide_eq_false (by omega)
  clear hR
  go_enter Tryd.func17, Tryd.ntmps17
  go_wp2_with fail
  go_loopw [] (fun wr => RdI w.heap.size s R w wr) (fun wr => s.size - plc w.heap.size wr)
  case atStart => exact HST0.out
  case round =>
    clear HST0
    obtain ⟨D, p, es, out, e, r, n, hRD, hlow, hgl, hp, hB, hstk, hrd⟩ := hrel
    obtain ⟨ao, c, bo, dd, hf⟩ := hRD.form
    obtain ⟨q, hq⟩ : ∃ q, q = gapAt s false p := ⟨_, rfl⟩
    have FS := Lib.hid (skip_any w.heap.size s p _ _ wr hf hp (by omega))
    have HRD := Lib.hid hRD
    have HLOW := Lib.hid hlow
    have HB := Lib.hid hB
    have HSTK := Lib.hid hstk
    have HRDN := Lib.hid hrd
    have HPW := Lib.hid hf.plc
    have HF := Lib.hid hf
    have HQ := Lib.hid hq
    have hpq : p ≤ q := by rw [hq]; unfold gapAt; omega
    clear hRD hlow hB hstk hrd hf hq
    go_wp2_with fail
    refine FS.out.mono ?_
    rintro e' w1 ⟨rfl, hR1, hO1, hq1⟩
    rw [← HQ.out] at hR1 hq1
    have HR1 := Lib.hid hR1
    have HRD1 : Hid (RdAt D w1.heap.size w1 w.heap.size s q es out) := by
      show RdAt _ _ _ _ _ _ _ _
      rw [hO1.size]
      exact rd_moved HRD.out HF.out hO1 hR1
    have HLOW1 : Hid (Below w.heap.size w w1) := HLOW.out.trans (only_below hO1)
    have hgl1 : w.heap.size < w1.heap.size := by rw [hO1.size]; exact hgl
    have d1 := hR1.cells.2.1
    clear hR1 hO1 FS HRD HLOW HF hgl
    by_cases hlt : q < s.size
    · have q1 : decide ((s.size : Int) ≤ (q : Int)) = false := decide_eq_false (by omega)
      obtain ⟨b, hb⟩ : ∃ b, s[q]'hlt = b := ⟨_, rfl⟩
      have hbl : s.data.toList[q]? = some b := by rw [byte_at s q hlt, hb]
      obtain ⟨hne0, hok⟩ := rd_next HSTK.out (HQ.out ▸ rfl) hbl HRDN.out
      have FN := Lib.hid (next_any w.heap.size s q es out b w1 HRD1.out hgl1 hlt hb hs (HB.out.more hpq))
      have HNE := Lib.hid hne0
      have HOK := Lib.hid hok
      have HBQ := Lib.hid (fun h => nxt_bnd (b := b) hlt (HB.out.more hpq) h)
      obtain ⟨nx, hnx⟩ : ∃ nx, nx = nxt s q b es out := ⟨_, rfl⟩
      have HNX := Lib.hid hnx
      clear hne0 hok hb hbl hnx
      go_wp2_with fail
      refine FN.out.mono ?_
      rintro e' w2 ⟨rfl, hl2, hz2, hA, hE⟩
      rw [← HNX.out] at hA hE ⊢
      have HL2 := Lib.hid hl2
      have HZ2 := Lib.hid hz2
      have HA := Lib.hid hA
      have HE := Lib.hid hE
      obtain ⟨ec, eq2, es2, out2⟩ := nx
      simp only [] at HA HE ⊢
      clear hl2 hz2 hA hE d1 FN
      by_cases h0 : ec = 0
      · have E0 : (ec != 0) = false := by rw [h0]; rfl
        have HNX0 := HNX.out
        have hn1 : (nxt s q b es out).1 = 0 := by rw [← HNX0]; exact h0
        obtain ⟨m, e3, r3, hs3, hr3⟩ := HOK.out hn1
        obtain ⟨b1, b2, b3⟩ := HBQ.out hn1
        obtain ⟨D', hD'⟩ := HA.out h0
        rw [← HNX0] at hs3 hr3 b1 b2 b3
        simp only [] at hs3 hr3 b1 b2 b3
        have HFIN : Hid (RdI w.heap.size s R w w2) := ⟨D', eq2, es2, out2, e3, r3, m, hD', HLOW1.out.trans HL2.out, by have := HZ2.out; omega, b2, b3, hs3, hr3⟩
        obtain ⟨ao4, c4, bo4, dd4, hf4⟩ := hD'.form
        have HM := Lib.hid hf4.plc
        have HB1 := Lib.hid b1
        clear HNX0 hn1 hs3 hr3 b1 b2 b3 hD' hf4 h0
        go_wp2_with fail
        go_roundw
        case rel => exact HFIN.out
        case measure =>
          have h1 := HM.out
          have h2 := HPW.out
          have h3 := HB1.out
          omega
      · have E0 : (ec != 0) = true := by simpa [bne] using h0
        have HNX0 := HNX.out
        have hn1 : (nxt s q b es out).1 ≠ 0 := by rw [← HNX0]; exact h0
        have hR := HNE.out hn1
        rw [← HNX0] at hR
        obtain ⟨ov5, dv5, h5⟩ := HE.out h0
        have HRR := Lib.hid hR
        have d5 := h5.cells.2.1
        have HL5 : Hid (Below w.heap.size w w2) := HLOW1.out.trans HL2.out
        have H5 := Lib.hid h5
        have h5l := h5.lt
        clear HNX0 hn1 hR h5 h0
        go_upto_region 8 with fail
        have HC : Hid (∀ w', Below w2.heap.size w2 w' → w'.cell? ⟨w.heap.size, 1, none⟩ = some (.int .i64 (q : Int))) := fun w' hw' => (hw'.cell (p := ⟨w.heap.size, 1, none⟩) h5l).trans d5
        clear d5
        have HS0 : Hid (Below w2.heap.size w2 w2.drew) := (Below.refl _ _).drew
        have HL5 : Hid (Below w.heap.size w w2.drew) := HL5.out.trans ((Below.refl _ _).drew)
        refine wp_region_noPanic ?_
        refine wp_region_held_drew (S := Below w2.heap.size w2) (by kernel_rfl) HS0.out (fun hHeld => ?_)
        generalize w2.drew = X at HS0 HL5 hHeld ⊢
        refine wpAnyH_take (i := 0) (v := ?v0) rfl (by kernel_rfl) (by kernel_rfl) (by kernel_rfl) (fun _ _ _ h => h) (Or.inl ⟨rfl, fun w' hw' => ?h0⟩) hHeld ?r0
        case h0 =>
          go_simp
          try with_reducible rfl
        simp only [List.getElem_toArray, List.getElem_cons_succ, List.getElem_cons_zero, Act.put, List.setIfInBounds_toArray, List.set_cons_zero, List.set_cons_succ]
        refine wpAnyH_take (i := 1) (v := ?v1) rfl (by kernel_rfl) (by kernel_rfl) (by kernel_rfl) (fun _ _ _ h => h) (Or.inl ⟨rfl, fun w' hw' => ?h1⟩) hHeld ?r1
        case h1 =>
          go_simp
          try with_reducible rfl
        simp only [List.getElem_toArray, List.getElem_cons_succ, List.getElem_cons_zero, Act.put, List.setIfInBounds_toArray, List.set_cons_zero, List.set_cons_succ]
        refine wpAnyH_take (i := 2) (v := ?v2) rfl (by kernel_rfl) (by kernel_rfl) (by kernel_rfl) (fun _ _ _ h => h) (Or.inl ⟨rfl, fun w' hw' => ?h2⟩) hHeld ?r2
        case h2 =>
          go_simp
          try with_reducible rfl
        simp only [List.getElem_toArray, List.getElem_cons_succ, List.getElem_cons_zero, Act.put, List.setIfInBounds_toArray, List.set_cons_zero, List.set_cons_succ]
        refine wpAnyH_take (i := 3) (v := ?v3) rfl (by kernel_rfl) (by kernel_rfl) (by kernel_rfl) (fun _ _ _ h => h) (Or.inl ⟨rfl, fun w' hw' => ?h3⟩) hHeld ?r3
        case h3 =>
          (have q9 := HC.out w' hw'; go_simp)
          try with_reducible rfl
        simp only [List.getElem_toArray, List.getElem_cons_succ, List.getElem_cons_zero, Act.put, List.setIfInBounds_toArray, List.set_cons_zero, List.set_cons_succ]
        refine wpAnyH_take (i := 4) (v := ?v4) rfl (by kernel_rfl) (by kernel_rfl) (by kernel_rfl) (fun _ _ _ h => h) (Or.inl ⟨rfl, fun w' hw' => ?h4⟩) hHeld ?r4
        case h4 =>
          go_simp
          try with_reducible rfl
        simp only [List.getElem_toArray, List.getElem_cons_succ, List.getElem_cons_zero, Act.put, List.setIfInBounds_toArray, List.set_cons_zero, List.set_cons_succ]
        refine wpAnyH_take (i := 5) (v := ?v5) rfl (by kernel_rfl) (by kernel_rfl) (by kernel_rfl) (fun _ _ _ h => h) (Or.inl ⟨rfl, fun w' hw' => ?h5⟩) hHeld ?r5
        case h5 =>
          go_simp
          try with_reducible rfl
        simp only [List.getElem_toArray, List.getElem_cons_succ, List.getElem_cons_zero, Act.put, List.setIfInBounds_toArray, List.set_cons_zero, List.set_cons_succ]
        refine wpAnyH_take (i := 6) (v := ?v6) rfl (by kernel_rfl) (by kernel_rfl) (by kernel_rfl) (fun _ _ _ h => h) (Or.inl ⟨rfl, fun w' hw' => ?h6⟩) hHeld ?r6
        case h6 =>
          go_simp
          try with_reducible rfl
        simp only [List.getElem_toArray, List.getElem_cons_succ, List.getElem_cons_zero, Act.put, List.setIfInBounds_toArray, List.set_cons_zero, List.set_cons_succ]
        refine wpAnyH_take (i := 7) (v := ?v7) rfl (by kernel_rfl) (by kernel_rfl) (by kernel_rfl) (fun _ _ _ h => h) (Or.inl ⟨rfl, fun w' hw' => ?h7⟩) hHeld ?r7
        case h7 =>
          go_simp
          try with_reducible rfl
        simp only [List.getElem_toArray, List.getElem_cons_succ, List.getElem_cons_zero, Act.put, List.setIfInBounds_toArray, List.set_cons_zero, List.set_cons_succ]
        refine wpAnyH_done (by kernel_rfl) ?_ _
        refine NoPanic.normal ?_
        clear hHeld
        go_wp2_with fail
        go_ret3
        rw [HRR.out]
        exact ⟨HL5.out, rfl⟩
    · have hqe : q = s.size := by omega
      have q1 : decide ((s.size : Int) ≤ (q : Int)) = true := decide_eq_true (by omega)
      have hbl : s.data.toList[q]? = none := by rw [List.getElem?_eq_none]; rw [← Lib.size_eq]; omega
      have hR := rd_over HSTK.out (HQ.out ▸ rfl) hbl HRDN.out
      have HRR := Lib.hid hR
      obtain ⟨ao6, c6, bo6, dd6, hf6⟩ := HRD1.out.form
      have d2 := hf6.cells.2.2.1
      have d3 := hf6.cells.2.2.2
      have HLAT := Lib.hid (HRD1.out.out_lat hf6)
      clear hbl hR hf6
      by_cases h0 : 0 < es.length
      · have q2 : decide (0 < (es.length : Int)) = true := decide_eq_true (by omega)
        have HR2 : Hid (R = .err 5 q) := by show _ = _; rw [HRR.out, if_pos h0]
        have HQE := Lib.hid hqe
        clear hqe
        go_wp2_with fail
        go_ret3
        rw [HR2.out, HQE.out]
        exact ⟨HLOW1.out, rfl⟩
      · have q2 : decide (0 < (es.length : Int)) = false := decide_eq_false (by omega)
        have HR2 : Hid (R = .ok out) := by show _ = _; rw [HRR.out, if_neg h0]
        have HQE := Lib.hid hqe
        clear hqe
        go_wp2_with fail
        go_ret3
        rw [HR2.out]
        exact ⟨HLOW1.out, _, rfl, HLAT.out⟩
end Go.Proofs.YtahdiknkcgnieaaDoor
