/- The document's Read. -/
import Derived.Test.YthhaegncnoekbaaYAA
import Derived.Test.YthhaegncnoekbaaYAI
import Derived.Test.YthhaegncnoekbaaYAC
import Derived.Test.YthhaegncnoekbaaYAB
import Derived.Deep.QuietTactic
import Derived.Deep.RegionHeld3
import Derived.Deep.Cut
import Derived.Test.YthhaegncnoekbaaYAD
namespace Go.Proofs.Ythhaegncnoekbaa
open Go.RowKit Go.BigM
set_option linter.unusedVariables false
set_option linter.unusedSimpArgs false
def RdI (g : Nat) (s : ByteArray) (R : Rs) (w wr : World) : Prop := ∃ (D : Nat → Prop) (p : Nat) (es : List En) (out : List Dt) (e : En) (r : List En) (n : Nat),
  RdAt D wr.heap.size wr g s p es out ∧ Below g w wr ∧ g < wr.heap.size ∧ p ≤ s.size ∧ Bnd es out p ∧ e :: r = stk es out ∧ rd s.data.toList n .next p e r = some R
theorem RdAt.out_lat {D : Nat → Prop} {N : Nat} {w : World} {g : Nat} {s : ByteArray} {p : Nat} {es : List En} {out : List Dt} (h : RdAt D N w g s p es out) {ov dv : Value} (hr : Rs3 w g s p ov dv) : LAt (fun x => g ≤ x) w dv out := by
  obtain ⟨ov2, dv2, xs, hR, ho, hd, hD, _⟩ := h
  unfold Rs3 at hr hR
  rw [hR] at hr
  injection hr with hr
  injection hr with hr _ _
  simp only [Array.mk.injEq, List.cons.injEq, and_true, true_and] at hr
  obtain ⟨_, rfl⟩ := hr
  exact hd.lat.mono (fun x hx => by
    rcases hx with h | h
    · have := (hD x h).1; omega
    · have := (hd.lt h).1; omega)
set_option maxHeartbeats 16000000 in
set_option maxRecDepth 100000 in
theorem ref_read_any (s : ByteArray) (w : World) (hs : s.size ≤ 8000) (n : Nat) (R : Rs) (hR : rd s.data.toList n .next 0 ⟨0, false, []⟩ [] = some R) :
    Calls Try.prog 41 #[.string s] w (RetRead w R) := by
  have HST0 : Hid (RdI w.heap.size s R w (w.alloc (.cells #[.string s, .int .i64 0, .slice none 0 0, .slice none 0 0] 114))) :=
    ⟨_, 0, [], [], ⟨0, false, []⟩, [], n, by rw [show (w.alloc (.cells #[.string s, .int .i64 0, .slice none 0 0, .slice none 0 0] 114)).heap.size = w.heap.size + 1 by simp]; exact RdAt.start w s, (Below.refl _ _).alloc (Nat.le_refl _) _, by simp, Nat.zero_le _, ⟨fun x hx => absurd hx (by simp), by simp, by simp⟩, rfl, hR⟩
  have q0 : decide (8000 < (s.size : Int)) = false := decide_eq_false (by omega)
  clear hR
  go_enter Try.func41, Try.ntmps41
  go_wp2_with fail
  go_loopw [] (fun wr => RdI w.heap.size s R w wr) (fun wr => s.size - plc w.heap.size wr)
  case atStart => exact HST0.out
  case round =>
    clear HST0
    obtain ⟨D, p, es, out, e, r, n, hRD, hlow, hgl, hp, hB, hstk, hrd⟩ := hrel
    obtain ⟨ao, c, bo, dd, hf⟩ := hRD.form
    obtain ⟨q, hq⟩ : ∃ q, q = gapAt s false p := ⟨_, rfl⟩
    have FS := Lib.hid (skip_any w.heap.size s p _ _ wr hf hp (by omega))
    have HRD := Lib.hid hRD
    have HLOW := Lib.hid hlow
    have HB := Lib.hid hB
    have HSTK := Lib.hid hstk
    have HRDN := Lib.hid hrd
    have HPW := Lib.hid hf.plc
    have HF := Lib.hid hf
    have HQ := Lib.hid hq
    have hpq : p ≤ q := by rw [hq]; unfold gapAt; omega
    clear hRD hlow hB hstk hrd hf hq
    go_wp2_with fail
    refine FS.out.mono ?_
    rintro e' w1 ⟨rfl, hR1, hO1, hq1⟩
    rw [← HQ.out] at hR1 hq1
    have HR1 := Lib.hid hR1
    have HRD1 : Hid (RdAt D w1.heap.size w1 w.heap.size s q es out) := by
      show RdAt _ _ _ _ _ _ _ _
      rw [hO1.size]
      exact rd_moved HRD.out HF.out hO1 hR1
    have HLOW1 : Hid (Below w.heap.size w w1) := HLOW.out.trans (only_below hO1)
    have hgl1 : w.heap.size < w1.heap.size := by rw [hO1.size]; exact hgl
    have d1 := hR1.cells.2.1
    clear hR1 hO1 FS HRD HLOW HF hgl
    by_cases hlt : q < s.size
    · have q1 : decide ((s.size : Int) ≤ (q : Int)) = false := decide_eq_false (by omega)
      obtain ⟨b, hb⟩ : ∃ b, s[q]'hlt = b := ⟨_, rfl⟩
      have hbl : s.data.toList[q]? = some b := by rw [byte_at s q hlt, hb]
      obtain ⟨hne0, hok⟩ := rd_next HSTK.out (HQ.out ▸ rfl) hbl HRDN.out
      have FN := Lib.hid (next_any w.heap.size s q es out b w1 HRD1.out hgl1 hlt hb hs (HB.out.more hpq))
      have HNE := Lib.hid hne0
      have HOK := Lib.hid hok
      have HBQ := Lib.hid (fun h => nxt_bnd (b := b) hlt (HB.out.more hpq) h)
      obtain ⟨nx, hnx⟩ : ∃ nx, nx = nxt s q b es out := ⟨_, rfl⟩
      have HNX := Lib.hid hnx
      clear hne0 hok hb hbl hnx
      go_wp2_with fail
      refine FN.out.mono ?_
      rintro e' w2 ⟨rfl, hl2, hz2, hA, hE⟩
      rw [← HNX.out] at hA hE ⊢
      have HL2 := Lib.hid hl2
      have HZ2 := Lib.hid hz2
      have HA := Lib.hid hA
      have HE := Lib.hid hE
      obtain ⟨ec, eq2, es2, out2⟩ := nx
      simp only [] at HA HE ⊢
      clear hl2 hz2 hA hE d1 FN
      by_cases h0 : ec = 0
      · have E0 : (ec != 0) = false := by rw [h0]; rfl
        have HNX0 := HNX.out
        have hn1 : (nxt s q b es out).1 = 0 := by rw [← HNX0]; exact h0
        obtain ⟨m, e3, r3, hs3, hr3⟩ := HOK.out hn1
        obtain ⟨b1, b2, b3⟩ := HBQ.out hn1
        obtain ⟨D', hD'⟩ := HA.out h0
        rw [← HNX0] at hs3 hr3 b1 b2 b3
        simp only [] at hs3 hr3 b1 b2 b3
        have HFIN : Hid (RdI w.heap.size s R w w2) := ⟨D', eq2, es2, out2, e3, r3, m, hD', HLOW1.out.trans HL2.out, by have := HZ2.out; omega, b2, b3, hs3, hr3⟩
        obtain ⟨ao4, c4, bo4, dd4, hf4⟩ := hD'.form
        have HM := Lib.hid hf4.plc
        have HB1 := Lib.hid b1
        clear HNX0 hn1 hs3 hr3 b1 b2 b3 hD' hf4 h0
        go_wp2_with fail
        go_roundw
        case rel => exact HFIN.out
        case measure =>
          have h1 := HM.out
          have h2 := HPW.out
          have h3 := HB1.out
          omega
      · have E0 : (ec != 0) = true := by simpa [bne] using h0
        have HNX0 := HNX.out
        have hn1 : (nxt s q b es out).1 ≠ 0 := by rw [← HNX0]; exact h0
        have hR := HNE.out hn1
        rw [← HNX0] at hR
        obtain ⟨ov5, dv5, h5⟩ := HE.out h0
        have HRR := Lib.hid hR
        have d5 := h5.cells.2.1
        have HL5 : Hid (Below w.heap.size w w2) := HLOW1.out.trans HL2.out
        have H5 := Lib.hid h5
        have h5l := h5.lt
        clear HNX0 hn1 hR h5 h0
        go_upto_region 8 with fail
        have HC : Hid (∀ w', Below w2.heap.size w2 w' → w'.cell? ⟨w.heap.size, 1, none⟩ = some (.int .i64 (q : Int))) := fun w' hw' => (hw'.cell (p := ⟨w.heap.size, 1, none⟩) h5l).trans d5
        clear d5
        have HS0 : Hid (Below w2.heap.size w2 w2.drew) := (Below.refl _ _).drew
        have HL5 : Hid (Below w.heap.size w w2.drew) := HL5.out.trans ((Below.refl _ _).drew)
        refine wp_region_noPanic ?_
        refine wp_region_held_drew (S := Below w2.heap.size w2) (by kernel_rfl) HS0.out (fun hHeld => ?_)
        generalize w2.drew = X at HS0 HL5 hHeld ⊢
        refine wpAnyH_take (i := 0) (v := ?v0) rfl (by kernel_rfl) (by kernel_rfl) (by kernel_rfl) (fun _ _ _ h => h) (Or.inl ⟨rfl, fun w' hw' => ?h0⟩) hHeld ?r0
        case h0 =>
          go_simp
          try with_reducible rfl
        simp only [zt, zs, zz, Act.put, zi, zy, zx]
        refine wpAnyH_take (i := 1) (v := ?v1) rfl (by kernel_rfl) (by kernel_rfl) (by kernel_rfl) (fun _ _ _ h => h) (Or.inl ⟨rfl, fun w' hw' => ?h1⟩) hHeld ?r1
        case h1 =>
          go_simp
          try with_reducible rfl
        simp only [zt, zs, zz, Act.put, zi, zy, zx]
        refine wpAnyH_take (i := 2) (v := ?v2) rfl (by kernel_rfl) (by kernel_rfl) (by kernel_rfl) (fun _ _ _ h => h) (Or.inl ⟨rfl, fun w' hw' => ?h2⟩) hHeld ?r2
        case h2 =>
          go_simp
          try with_reducible rfl
        simp only [zt, zs, zz, Act.put, zi, zy, zx]
        refine wpAnyH_take (i := 3) (v := ?v3) rfl (by kernel_rfl) (by kernel_rfl) (by kernel_rfl) (fun _ _ _ h => h) (Or.inl ⟨rfl, fun w' hw' => ?h3⟩) hHeld ?r3
        case h3 =>
          (have q9 := HC.out w' hw'; go_simp)
          try with_reducible rfl
        simp only [zt, zs, zz, Act.put, zi, zy, zx]
        refine wpAnyH_take (i := 4) (v := ?v4) rfl (by kernel_rfl) (by kernel_rfl) (by kernel_rfl) (fun _ _ _ h => h) (Or.inl ⟨rfl, fun w' hw' => ?h4⟩) hHeld ?r4
        case h4 =>
          go_simp
          try with_reducible rfl
        simp only [zt, zs, zz, Act.put, zi, zy, zx]
        refine wpAnyH_take (i := 5) (v := ?v5) rfl (by kernel_rfl) (by kernel_rfl) (by kernel_rfl) (fun _ _ _ h => h) (Or.inl ⟨rfl, fun w' hw' => ?h5⟩) hHeld ?r5
        case h5 =>
          go_simp
          try with_reducible rfl
        simp only [zt, zs, zz, Act.put, zi, zy, zx]
        refine wpAnyH_take (i := 6) (v := ?v6) rfl (by kernel_rfl) (by kernel_rfl) (by kernel_rfl) (fun _ _ _ h => h) (Or.inl ⟨rfl, fun w' hw' => ?h6⟩) hHeld ?r6
        case h6 =>
          go_simp
          try with_reducible rfl
        simp only [zt, zs, zz, Act.put, zi, zy, zx]
        refine wpAnyH_take (i := 7) (v := ?v7) rfl (by kernel_rfl) (by kernel_rfl) (by kernel_rfl) (fun _ _ _ h => h) (Or.inl ⟨rfl, fun w' hw' => ?h7⟩) hHeld ?r7
        case h7 =>
          go_simp
          try with_reducible rfl
        simp only [zt, zs, zz, Act.put, zi, zy, zx]
        refine wpAnyH_done (by kernel_rfl) ?_ _
        refine NoPanic.normal ?_
        clear hHeld
        go_wp2_with fail
        go_ret3
        rw [HRR.out]
        exact ⟨HL5.out, rfl⟩
    · have hqe : q = s.size := by omega
      have q1 : decide ((s.size : Int) ≤ (q : Int)) = true := decide_eq_true (by omega)
      have hbl : s.data.toList[q]? = none := by rw [List.getElem?_eq_none]; rw [← Lib.size_eq]; omega
      have hR := rd_over HSTK.out (HQ.out ▸ rfl) hbl HRDN.out
      have HRR := Lib.hid hR
      obtain ⟨ao6, c6, bo6, dd6, hf6⟩ := HRD1.out.form
      have d2 := hf6.cells.2.2.1
      have d3 := hf6.cells.2.2.2
      have HLAT := Lib.hid (HRD1.out.out_lat hf6)
      clear hbl hR hf6
      by_cases h0 : 0 < es.length
      · have q2 : decide (0 < (es.length : Int)) = true := decide_eq_true (by omega)
        have HR2 : Hid (R = .err 5 q) := by show _ = _; rw [HRR.out, if_pos h0]
        have HQE := Lib.hid hqe
        clear hqe
        go_wp2_with fail
        go_ret3
        rw [HR2.out, HQE.out]
        exact ⟨HLOW1.out, rfl⟩
      · have q2 : decide (0 < (es.length : Int)) = false := decide_eq_false (by omega)
        have HR2 : Hid (R = .ok out) := by show _ = _; rw [HRR.out, if_neg h0]
        have HQE := Lib.hid hqe
        clear hqe
        go_wp2_with fail
        go_ret3
        rw [HR2.out]
        exact ⟨HLOW1.out, _, rfl, HLAT.out⟩
end Go.Proofs.Ythhaegncnoekbaa
namespace Go.Proofs.Ythhaegncnoekbaa
open Go.RowKit Go.BigM
set_option linter.unusedVariables false
set_option linter.unusedSimpArgs false
def rdOf (s : ByteArray) : Rs := (rd s.data.toList (8 * (2 * (s.data.toList.length - 0) + ([] : List En).length) + Pc.rank .next) .next 0 ⟨0, false, []⟩ []).getD (.err 0 0)
theorem rdOf_is (s : ByteArray) : rd s.data.toList (8 * (2 * (s.data.toList.length - 0) + ([] : List En).length) + Pc.rank .next) .next 0 ⟨0, false, []⟩ [] = some (rdOf s) := by
  obtain ⟨R, hR⟩ := rd_total s.data.toList (8 * (2 * (s.data.toList.length - 0) + ([] : List En).length) + Pc.rank .next) .next 0 ⟨0, false, []⟩ [] (Nat.le_refl _) (Nat.zero_le _) rfl
  unfold rdOf
  rw [hR]; rfl
/-- The datum of a text; of what is refused, or is none, the empty list. -/
def oneOf (s : ByteArray) : Dt := match rdOf s with
  | .ok (d :: _) => d
  | _ => .mk 4 ⟨#[]⟩ [] [] 0
theorem oneOf_size (s : ByteArray) : (oneOf s).size ≤ 2 * s.size + 1 := by
  unfold oneOf
  have h := rdOf_is s
  split
  · rename_i d r e
    rw [e] at h
    have := rd_size s.data.toList _ _ _ _ _ _ h (Nat.zero_le _) (by simp [wgt, Pc.wgt, Dt.sizes])
    rw [Lib.size_eq]
    simp only [Dt.sizes] at this
    omega
  · simp [Dt.size, Dt.sizes]
def RetOne (d : Dt) (w : World) (e : Ending) (w' : World) : Prop := ∃ cs, e = .returned (.agg cs) ∧ Dt.At (fun g => w.heap.size ≤ g) w' d cs ∧ Below w.heap.size w w'
set_option maxHeartbeats 8000000 in
set_option maxRecDepth 100000 in
theorem one_any (s : ByteArray) (w : World) (hs : s.size ≤ 8000) : Calls Try.prog 17 #[.string s] w (RetOne (oneOf s) w) := by
  have FR := Lib.hid (fun w => ref_read_any s w hs _ _ (rdOf_is s))
  have HO : Hid (oneOf s = match rdOf s with | .ok (d :: _) => d | _ => .mk 4 ⟨#[]⟩ [] [] 0) := rfl
  have hb0 : Below w.heap.size w (w.alloc (.cells Z5 29)) := (Below.refl _ _).alloc (Nat.le_refl _) _
  have hx := alloc_at w (.cells Z5 29)
  have hxs : (w.alloc (.cells Z5 29)).heap.size = w.heap.size + 1 := by simp
  obtain ⟨X, hX⟩ : ∃ X, X = w.alloc (.cells Z5 29) := ⟨_, rfl⟩
  have HXE : Hid (X = w.alloc (.cells #[.int .i64 0, .string ⟨#[]⟩, .slice none 0 0, .slice none 0 0, .int .i64 0] 29)) := hX
  rw [← hX] at hb0 hx hxs
  have HX := Lib.hid hx
  have HB0 := Lib.hid hb0
  clear hX hb0 hx
  obtain ⟨R, hR⟩ : ∃ R, R = rdOf s := ⟨_, rfl⟩
  rw [← hR] at FR HO
  clear hR
  go_enter Try.func17, Try.ntmps17
  go_upto_region 1 with fail
  rw [← HXE.out]
  go_wp2_with fail
  refine (FR.out _).mono ?_
  rintro e w2 ⟨hb2, hres⟩
  have hs2 := hb2.size
  have HX2 : Hid (w2.heap[w.heap.size]? = some (.cells Z5 29 (0, 0))) := by show _ = _; rw [hb2.block _ (by omega)]; exact HX.out
  have HB2 := Lib.hid (HB0.out.trans (hb2.mono HB0.out.size))
  clear hb2 FR HXE HX
  have z1 : (#[.int .i64 4, .string ⟨#[]⟩, .slice none 0 0, .slice none 0 0, .int .i64 0] : Array Value).all (·.oneCell') = true := by simp [Value.oneCell']
  have HX3 : Hid ((w2.setRow w.heap.size #[.int .i64 4, .string ⟨#[]⟩, .slice none 0 0, .slice none 0 0, .int .i64 0]).heap[w.heap.size]? = some (.cells #[.int .i64 4, .string ⟨#[]⟩, .slice none 0 0, .slice none 0 0, .int .i64 0] 29 (0, 0))) := setRow_heap w2 w.heap.size _ _ 29 (0, 0) HX2.out
  have HB3 : Hid (Below w.heap.size w (w2.setRow w.heap.size #[.int .i64 4, .string ⟨#[]⟩, .slice none 0 0, .slice none 0 0, .int .i64 0])) := below_setRowB HB2.out _ _ (Nat.le_refl _)
  have HNO : Hid (∀ W, Dt.At (fun g => w.heap.size ≤ g) W (.mk 4 ⟨#[]⟩ [] [] 0) #[.int .i64 4, .string ⟨#[]⟩, .slice none 0 0, .slice none 0 0, .int .i64 0]) := fun W => by
    rw [At_mk]; exact ⟨_, _, rfl, .inl ⟨rfl, rfl⟩, .inl ⟨rfl, rfl⟩⟩
  cases R with
  | err c p =>
    have he : e = .returned (.tuple #[.slice none 0 0, .int .i64 (p : Int), .int .i64 c]) := hres
    subst he
    by_cases h0 : c = 0
    · have q0 : (c != 0) = false := by simp [h0]
      clear h0
      go_wp2_with (refine wpList_store_row rfl 29 _ _ rfl w.heap.size #[.int .i64 4, .string ⟨#[]⟩, .slice none 0 0, .slice none 0 0, .int .i64 0] rfl rfl 29 Z5 HX2.out info40 rfl z1 ?_)
      refine bodyPost_ret (results_cell_row rfl _ _ w.heap.size 29 #[.int .i64 4, .string ⟨#[]⟩, .slice none 0 0, .slice none 0 0, .int .i64 0] (0, 0) _ rfl HX3.out Try.underlying29 rfl info40) rfl ?_
      exact ⟨_, rfl, by rw [HO.out]; exact HNO.out _, HB3.out⟩
    · have q0 : (c != 0) = true := by simpa [bne] using h0
      clear h0
      go_wp2_with (refine wpList_store_row rfl 29 _ _ rfl w.heap.size #[.int .i64 4, .string ⟨#[]⟩, .slice none 0 0, .slice none 0 0, .int .i64 0] rfl rfl 29 Z5 HX2.out info40 rfl z1 ?_)
      refine bodyPost_ret (results_cell_row rfl _ _ w.heap.size 29 #[.int .i64 4, .string ⟨#[]⟩, .slice none 0 0, .slice none 0 0, .int .i64 0] (0, 0) _ rfl HX3.out Try.underlying29 rfl info40) rfl ?_
      exact ⟨_, rfl, by rw [HO.out]; exact HNO.out _, HB3.out⟩
  | ok ds =>
    obtain ⟨v, rfl, hl⟩ := hres
    cases ds with
    | nil =>
      obtain ⟨ao, c, rfl⟩ := hl.form
      clear hl
      go_wp2_with (refine wpList_store_row rfl 29 _ _ rfl w.heap.size #[.int .i64 4, .string ⟨#[]⟩, .slice none 0 0, .slice none 0 0, .int .i64 0] rfl rfl 29 Z5 HX2.out info40 rfl z1 ?_)
      refine bodyPost_ret (results_cell_row rfl _ _ w.heap.size 29 #[.int .i64 4, .string ⟨#[]⟩, .slice none 0 0, .slice none 0 0, .int .i64 0] (0, 0) _ rfl HX3.out Try.underlying29 rfl info40) rfl ?_
      exact ⟨_, rfl, by rw [HO.out]; exact HNO.out _, HB3.out⟩
    | cons d r =>
      obtain ⟨ao, c, rfl⟩ := hl.form
      obtain ⟨g, o, k5, t5, mv5, lv5, p5, rfl, hS, -, hat, e0, e1, e2, e3, e4, o5, o6⟩ := hl.get 0 (by simp)
      have hg : g < w2.heap.size := World.block_lt_of_cell? w2 _ e0
      simp only [Nat.zero_mul, Nat.add_zero] at e0 e1 e2 e3 e4
      have z5 : (#[.int .i64 k5, .string t5, mv5, lv5, .int .i64 p5] : Array Value).all (·.oneCell') = true := by simp [Value.oneCell'] at o5 o6 ⊢; exact ⟨o5, o6⟩
      have HX5 : Hid ((w2.setRow w.heap.size #[.int .i64 k5, .string t5, mv5, lv5, .int .i64 p5]).heap[w.heap.size]? = some (.cells #[.int .i64 k5, .string t5, mv5, lv5, .int .i64 p5] 29 (0, 0))) := setRow_heap w2 w.heap.size _ _ 29 (0, 0) HX2.out
      have HB5 : Hid (Below w.heap.size w (w2.setRow w.heap.size #[.int .i64 k5, .string t5, mv5, lv5, .int .i64 p5])) := below_setRowB HB2.out _ _ (Nat.le_refl _)
      have HA5 : Hid (Dt.At (fun g => w.heap.size ≤ g) (w2.setRow w.heap.size #[.int .i64 k5, .string t5, mv5, lv5, .int .i64 p5]) d #[.int .i64 k5, .string t5, mv5, lv5, .int .i64 p5]) := by
        refine Dt.At.mono (S := fun g => X.heap.size ≤ g) (fun g h => by have : X.heap.size ≤ g := h; omega) _ _ (Dt.At.keeps (fun x c T fz hx hh _ => ⟨fz, ?_⟩) _ _ hat)
        have : X.heap.size ≤ x := hx
        rw [setRow_other w2 _ x _ (by omega)]; exact hh
      have HL := Lib.hid hg
      have hlen : (d :: r).length = r.length + 1 := rfl
      rw [hlen]
      have hrl : decide (0 < r.length + 1) = true := decide_eq_true (by omega)
      clear hat hS hl hlen hg
      go_wp2_with (refine wpList_store_row rfl 29 _ _ rfl w.heap.size #[.int .i64 k5, .string t5, mv5, lv5, .int .i64 p5] rfl rfl 29 Z5 HX2.out info40 rfl z5 ?_)
      refine bodyPost_ret (results_cell_row rfl _ _ w.heap.size 29 #[.int .i64 k5, .string t5, mv5, lv5, .int .i64 p5] (0, 0) _ rfl HX5.out Try.underlying29 rfl info40) rfl ?_
      exact ⟨_, rfl, by rw [HO.out]; exact HA5.out, HB5.out⟩
end Go.Proofs.Ythhaegncnoekbaa
namespace Go.Proofs.Ythhaegncnoekbaa
open Go.RowKit
set_option linter.unusedVariables false
set_option linter.unusedSimpArgs false
def nxtDots : List Dt → Bool
  | [] => false
  | d :: _ => d.dots
mutual
/-- The variables of a pattern, with their depths, in order. -/
def Dt.vars (V : Dt → Bool) : Dt → Int → List (Dt × Int)
  | .mk k t ms l p, n => if V (.mk k t ms l p) = true then [(.mk k t ms l p, n)] else varss V l n
def varss (V : Dt → Bool) : List Dt → Int → List (Dt × Int)
  | [], _ => []
  | d :: r, n => d.vars V (if nxtDots r = true then n + 1 else n) ++ varss V r n
end
theorem vars_mk (V : Dt → Bool) (k : Int) (t : ByteArray) (ms : List Int) (l : List Dt) (p : Int) (n : Int) : (Dt.mk k t ms l p).vars V n = if V (.mk k t ms l p) = true then [(.mk k t ms l p, n)] else varss V l n := by rw [Dt.vars]
theorem varss_cons (V : Dt → Bool) (d : Dt) (r : List Dt) (n : Int) : varss V (d :: r) n = d.vars V (if nxtDots r = true then n + 1 else n) ++ varss V r n := by rw [varss]
mutual
theorem vars_len (V : Dt → Bool) : ∀ (d : Dt) (n : Int), (d.vars V n).length ≤ d.size
  | .mk k t ms l p, n => by
    rw [vars_mk]
    have := varss_len V l n
    split
    · simp only [Dt.size, List.length_singleton]; omega
    · simp only [Dt.size]; omega
theorem varss_len (V : Dt → Bool) : ∀ (l : List Dt) (n : Int), (varss V l n).length ≤ Dt.sizes l
  | [], n => by simp [varss]
  | d :: r, n => by
    rw [varss_cons, List.length_append]
    have h1 := vars_len V d (if nxtDots r = true then n + 1 else n)
    have h2 := varss_len V r n
    simp only [Dt.sizes]; omega
end
/-- A row of names with depths that the call owns; the names' parts lie below B. -/
def OwnN (B : Nat) (w : World) (v : Value) (ns : List (Dt × Int)) : Prop :=
  ∃ xs, w.ownsRow B 93 6 v ns.length xs ∧ ∀ j (h : j < ns.length), ∃ cs : Array Value, cs.size = 5 ∧ (∀ i, i < 5 → xs[6 * j + i]? = cs[i]?) ∧ xs[6 * j + 5]? = some (.int .i64 ns[j].2) ∧ Dt.At (fun g => g < B) w ns[j].1 cs
theorem OwnN.nil (B : Nat) (w : World) : OwnN B w (.slice none 0 0) [] := ⟨[], World.ownsRow_nil _ _ _ _, fun j h => by simp at h⟩
/-- What a call that puts something behind a row that it was given leaves. -/
def Grw (w w' : World) (v v' : Value) : Prop := w.grownBy w' v.ownBlock ∧ (v'.ownBlock = v.ownBlock ∨ ∃ b, v'.ownBlock = some b ∧ w.heap.size ≤ b ∧ b < w'.heap.size)
theorem Grw.refl (w : World) (v : Value) : Grw w w v v := ⟨⟨rfl, rfl, rfl, Nat.le_refl _, fun _ _ _ => rfl⟩, .inl rfl⟩
theorem Grw.of_below {w w' : World} (h : Below w.heap.size w w') (v : Value) : Grw w w' v v := ⟨⟨h.os, h.tape, h.output, h.size, fun k hk _ => h.block k hk⟩, .inl rfl⟩
theorem Grw.trans {a b c : World} {v v' v'' : Value} (h : Grw a b v v') (k : Grw b c v' v'') : Grw a c v v'' := by
  obtain ⟨h1, h2⟩ := h
  obtain ⟨k1, k2⟩ := k
  have s1 := h1.size
  have s2 := k1.size
  refine ⟨⟨k1.os.trans h1.os, k1.tape.trans h1.tape, k1.output.trans h1.output, by omega, fun x hx hn => ?_⟩, ?_⟩
  · rw [k1.block x (by omega) (fun e => ?_), h1.block x hx hn]
    rcases h2 with h2 | ⟨b, h2, hb, _⟩
    · exact hn (e.trans h2)
    · rw [h2] at e; injection e with e; omega
  · rcases k2 with k2 | ⟨b, k2, hb, hc⟩
    · rcases h2 with h2 | ⟨b, h2, hb, hc⟩
      · exact .inl (k2.trans h2)
      · exact .inr ⟨b, k2.trans h2, hb, by omega⟩
    · exact .inr ⟨b, k2, by omega, hc⟩
theorem Grw.below {B : Nat} {w w' : World} {v v' : Value} (h : Grw w w' v v') (hB : B ≤ w.heap.size) (hv : ∀ x, v.ownBlock = some x → B ≤ x) : Below B w w' :=
  ⟨h.1.os, h.1.tape, h.1.output, h.1.size, fun k hk => h.1.block k (by omega) (fun e => by have := hv k e.symm; omega)⟩
theorem keeps_low {B : Nat} {w w' : World} (h : Below B w w') : Keeps (fun g => g < B) w w' := fun g c T fz hs hg _ => ⟨fz, by rw [h.block g hs]; exact hg⟩
theorem OwnN.low {B : Nat} {w : World} {v : Value} {ns : List (Dt × Int)} (h : OwnN B w v ns) : ∀ x, v.ownBlock = some x → B ≤ x ∧ x < w.heap.size := by
  obtain ⟨xs, ho, _⟩ := h
  exact ho.lt
theorem OwnN.below {B : Nat} {w w' : World} {v : Value} {ns : List (Dt × Int)} (h : OwnN B w v ns) (hb : Below w.heap.size w w') (hB : B ≤ w.heap.size) : OwnN B w' v ns := by
  obtain ⟨xs, ho, hd⟩ := h
  refine ⟨xs, ho.kept (Below.grownRow hb none) (by cases v.ownBlock <;> simp), fun j hj => ?_⟩
  obtain ⟨cs, h5, h1, h2, h3⟩ := hd j hj
  exact ⟨cs, h5, h1, h2, Dt.At.keeps (keeps_low (hb.mono hB)) _ _ h3⟩
theorem OwnN.form {B : Nat} {w : World} {v : Value} {ns : List (Dt × Int)} (h : OwnN B w v ns) : ∃ ao c, v = .slice ao ns.length c := by
  obtain ⟨xs, ho, _⟩ := h
  exact row_form6 ho
where
  row_form6 {w : World} {B T n : Nat} {v : Value} {xs : List Value} (h : w.ownsRow B T 6 v n xs) : ∃ ao c, v = .slice ao n c := by
    rcases h.2 with ⟨rfl, hz⟩ | ⟨g, cap, cur, rfl, _⟩
    · subst hz; exact ⟨none, 0, rfl⟩
    · exact ⟨_, _, rfl⟩
/-- One name more. -/
theorem OwnN.snoc {B : Nat} {w : World} {v : Value} {ns : List (Dt × Int)} {d : Dt} {n : Int} {cs : Array Value} (h : OwnN B w v ns) (h5 : cs.size = 5) (hd : Dt.At (fun g => g < B) w d cs) (hB : B ≤ w.heap.size) :
    ∃ xs, w.ownsRow B 93 6 v ns.length xs ∧ ∀ v' w9, w9.ownsRow B 93 6 v' (ns.length + 1) (xs ++ (cs.toList ++ [.int .i64 n])) → w.grownBy w9 v.ownBlock → OwnN B w9 v' (ns ++ [(d, n)]) := by
  have hlow := h.low
  obtain ⟨xs, ho, hx⟩ := h
  refine ⟨xs, ho, fun v' w9 h9 hg => ⟨_, by simpa using h9, fun j hj => ?_⟩⟩
  have hk : Keeps (fun g => g < B) w w9 := keeps_low ⟨hg.os, hg.tape, hg.output, hg.size, fun k hk => hg.block k (by omega) (fun e => by have := (hlow k e.symm).1; omega)⟩
  have hl : xs.length = ns.length * 6 := ho.1
  have hcl : cs.toList.length = 5 := by simpa using h5
  by_cases hlt : j < ns.length
  · obtain ⟨c, c5, c1, c2, c3⟩ := hx j hlt
    refine ⟨c, c5, fun i hi => ?_, ?_, ?_⟩
    · rw [List.getElem?_append_left (by omega)]; exact c1 i hi
    · rw [List.getElem?_append_left (by omega), List.getElem_append_left hlt]; exact c2
    · rw [List.getElem_append_left hlt]; exact Dt.At.keeps hk _ _ c3
  · have hj' : j = ns.length := by simp at hj; omega
    subst hj'
    refine ⟨cs, h5, fun i hi => ?_, ?_, ?_⟩
    · rw [List.getElem?_append_right (by omega), show 6 * ns.length + i - xs.length = i by omega, List.getElem?_append_left (by omega)]; simp
    · rw [List.getElem?_append_right (by omega), show 6 * ns.length + 5 - xs.length = 5 by omega, List.getElem?_append_right (by omega), List.getElem_append_right (by omega)]
      simp [hcl]
    · rw [List.getElem_append_right (by omega)]
      simp
      exact Dt.At.keeps hk _ _ hd
end Go.Proofs.Ythhaegncnoekbaa
namespace Go.Proofs.Ythhaegncnoekbaa
open Go.RowKit
set_option linter.unusedVariables false
set_option linter.unusedSimpArgs false
def EInv (ms ns : List Int) (w : World) (iv : Value) (wr : World) : Prop :=
  ∃ j m : Nat, j ≤ ms.length ∧ iv = .int .i64 j ∧ ms.take j = ns.take j ∧ wr = w.drewN m

def FInv (l m : List Dt) (w : World) (iv : Value) (wr : World) : Prop :=
  ∃ j : Nat, j ≤ l.length ∧ iv = .int .i64 j ∧ (∀ i (h1 : i < l.length) (h2 : i < m.length), i < j → Dt.same l[i] m[i] = true) ∧ Below w.heap.size w wr

theorem MAt.form {S : Nat → Prop} {w : World} {mv : Value} {ms : List Int} (h : MAt S w mv ms) : ∃ ao cap, mv = .slice ao ms.length cap := by
  rcases h with ⟨rfl, rfl⟩ | ⟨g, o, cap, arr, fz, rfl, _⟩
  · exact ⟨none, 0, rfl⟩
  · exact ⟨_, _, rfl⟩
theorem MAt.get {S : Nat → Prop} {w : World} {ao : Option Addr} {n cap : Nat} {ms : List Int} (h : MAt S w (.slice ao n cap) ms) (j : Nat) (hj : j < ms.length) :
    ∃ g o, ao = some ⟨g, o, none⟩ ∧ w.cell? ⟨g, o + j, none⟩ = some (.int .i64 ms[j]) := by
  rcases h with ⟨_, rfl⟩ | ⟨g, o, cap', arr, fz, e, hS, hg, hd⟩
  · simp at hj
  · injection e with e1 e2 e3
    subst e1
    exact ⟨g, o, rfl, by rw [Lib.cell_of_heap hg]; exact hd.1 j hj⟩
theorem take_ext (ms ns : List Int) (j : Nat) (h : ms.take j = ns.take j) (h1 : j < ms.length) (h2 : j < ns.length) (he : ms[j] = ns[j]) : ms.take (j + 1) = ns.take (j + 1) := by
  rw [List.take_succ_eq_append_getElem h1, List.take_succ_eq_append_getElem h2, h, he]
/-- The loop of Equal. -/
theorem same_mk (k k' : Int) (t t' : ByteArray) (ms ms' : List Int) (l l' : List Dt) (p p' : Int) :
    Dt.same (.mk k t ms l p) (.mk k' t' ms' l' p') = ((k == k') && ((t.toList == t'.toList) && ((ms == ms') && Dt.sames l l'))) := by simp [Dt.same]



end Go.Proofs.Ythhaegncnoekbaa
namespace Go.Proofs.Ythhaegncnoekbaa
open Go.RowKit
set_option linter.unusedVariables false
set_option linter.unusedSimpArgs false
/-- A slice of names with depths. -/
def NsAt (B : Nat) (w : World) (v : Value) (ns : List (Dt × Int)) : Prop :=
  (v = .slice none 0 0 ∧ ns = []) ∨ ∃ g o cap arr fz, v = .slice (some ⟨g, o, none⟩) ns.length cap ∧ w.heap[g]? = some (.cells arr 93 fz) ∧
    ∀ j (h : j < ns.length), ∃ cs : Array Value, cs.size = 5 ∧ (∀ i, i < 5 → arr[o + 6 * j + i]? = cs[i]?) ∧ arr[o + 6 * j + 5]? = some (.int .i64 ns[j].2) ∧ Dt.At (fun g => g < B) w ns[j].1 cs
theorem NsAt.form {B : Nat} {w : World} {v : Value} {ns : List (Dt × Int)} (h : NsAt B w v ns) : ∃ ao c, v = .slice ao ns.length c := by
  rcases h with ⟨rfl, rfl⟩ | ⟨g, o, cap, arr, fz, rfl, _⟩
  · exact ⟨none, 0, rfl⟩
  · exact ⟨_, _, rfl⟩
theorem NsAt.below {B : Nat} {w w' : World} {v : Value} {ns : List (Dt × Int)} (h : NsAt B w v ns) (hb : Below w.heap.size w w') (hB : B ≤ w.heap.size) : NsAt B w' v ns := by
  rcases h with h | ⟨g, o, cap, arr, fz, e, hg, hd⟩
  · exact .inl h
  · refine .inr ⟨g, o, cap, arr, fz, e, by rw [hb.block g (Array.getElem?_eq_some_iff.1 hg).1]; exact hg, fun j hj => ?_⟩
    obtain ⟨cs, h5, h1, h2, h3⟩ := hd j hj
    exact ⟨cs, h5, h1, h2, Dt.At.keeps (keeps_low (hb.mono hB)) _ _ h3⟩
/-- The first so many. -/
theorem NsAt.take {B : Nat} {w : World} {ao : Option Addr} {n c : Nat} {ns : List (Dt × Int)} (h : NsAt B w (.slice ao n c) ns) (i : Nat) (hi : i ≤ ns.length) : NsAt B w (.slice ao i c) (ns.take i) := by
  rcases h with ⟨e, rfl⟩ | ⟨g, o, cap, arr, fz, e, hg, hd⟩
  · injection e with e1 e2 e3
    simp at hi
    subst hi e1 e3
    exact .inl ⟨rfl, rfl⟩
  · injection e with e1 e2 e3
    subst e1 e3
    refine .inr ⟨g, o, c, arr, fz, by rw [List.length_take]; congr 1; omega, hg, fun j hj => ?_⟩
    rw [List.length_take] at hj
    obtain ⟨cs, h5, h1, h2, h3⟩ := hd j (by omega)
    exact ⟨cs, h5, h1, by rw [List.getElem_take]; exact h2, by rw [List.getElem_take]; exact h3⟩
theorem NsAt.get {B : Nat} {w : World} {ao : Option Addr} {n cap : Nat} {ns : List (Dt × Int)} (h : NsAt B w (.slice ao n cap) ns) (j : Nat) (hj : j < ns.length) :
    ∃ g o k t mv lv p, ao = some ⟨g, o, none⟩ ∧ Dt.At (fun g => g < B) w ns[j].1 #[.int .i64 k, .string t, mv, lv, .int .i64 p] ∧ w.cell? ⟨g, o + j * 6, none⟩ = some (.int .i64 k) ∧ w.cell? ⟨g, o + j * 6 + 1, none⟩ = some (.string t) ∧ w.cell? ⟨g, o + j * 6 + 2, none⟩ = some mv ∧
      w.cell? ⟨g, o + j * 6 + 3, none⟩ = some lv ∧ w.cell? ⟨g, o + j * 6 + 4, none⟩ = some (.int .i64 p) ∧ w.cell? ⟨g, o + j * 6 + 5, none⟩ = some (.int .i64 ns[j].2) ∧ mv.oneCell' = true ∧ lv.oneCell' = true := by
  rcases h with ⟨_, rfl⟩ | ⟨g, o, cap', arr, fz, e, hg, hd⟩
  · simp at hj
  · injection e with e1 e2 e3
    subst e1
    obtain ⟨cs, h5, h1, h2, h3⟩ := hd j hj
    obtain ⟨mv, lv, rfl, q1, q2⟩ := At_five h3
    have e : o + j * 6 = o + 6 * j := by omega
    refine ⟨g, o, _, _, mv, lv, _, rfl, h3, ?_, ?_, ?_, ?_, ?_, ?_, q1, q2⟩
    · rw [e, Lib.cell_of_heap hg]; exact h1 0 (by decide)
    · rw [e, Lib.cell_of_heap hg]; exact h1 1 (by decide)
    · rw [e, Lib.cell_of_heap hg]; exact h1 2 (by decide)
    · rw [e, Lib.cell_of_heap hg]; exact h1 3 (by decide)
    · rw [e, Lib.cell_of_heap hg]; exact h1 4 (by decide)
    · rw [e, Lib.cell_of_heap hg]; exact h2
end Go.Proofs.Ythhaegncnoekbaa
namespace Go.Proofs.Ythhaegncnoekbaa
open Go.RowKit
set_option linter.unusedVariables false
set_option linter.unusedSimpArgs false
theorem infoI : (Try.prog.info? 3).map (fun i => (i.zero, i.size, i.bytes)) = some (some (.int .i64 0), 1, 8) := by kernel_rfl
/-- A slice of numbers that is read. -/
def Src (w : World) (ao : Option Addr) (len cap : Nat) (ms : List Int) : Prop :=
  ms.length = len ∧ ((ao = none ∧ len = 0 ∧ cap = 0) ∨ ∃ x, ao = some x ∧ ∀ j (h : j < ms.length), w.cell? (x.add j) = some (.int .i64 ms[j]))
theorem Src.below {w w' : World} {a : Option Addr} {len cap : Nat} {ms : List Int} (h : Src w a len cap ms) (hb : Below w.heap.size w w') : Src w' a len cap ms := by
  obtain ⟨h1, h2⟩ := h
  refine ⟨h1, ?_⟩
  rcases h2 with h | ⟨x, rfl, h⟩
  · exact .inl h
  · exact .inr ⟨x, rfl, fun j hj => by rw [hb.cell (World.block_lt_of_cell? w _ (h j hj))]; exact h j hj⟩
/-- A row of numbers that the call owns. -/
def Nums (B : Nat) (w : World) (v : Value) (ms : List Int) : Prop := w.ownsRow B 3 1 v ms.length (ms.map (Value.int .i64))
theorem Nums.at {B : Nat} {w : World} {v : Value} {ms : List Int} (h : Nums B w v ms) (hm : ms.length ≤ 1000000000) : MAt (fun g => B ≤ g) w v ms := by
  rcases h.2 with ⟨rfl, hz⟩ | ⟨g, cap, cur, rfl, hbg, hg, hnc, hcm, hcs, htake⟩
  · exact .inl ⟨rfl, List.length_eq_zero_iff.1 hz⟩
  · refine .inr ⟨g, 0, cap, cur, (0, 0), rfl, hbg, hg, fun j hj => ?_, hm⟩
    have h1 : (cur.toList.take (ms.length * 1))[j]? = some (.int .i64 ms[j]) := by rw [htake, List.getElem?_map, List.getElem?_eq_getElem hj]; rfl
    rw [List.getElem?_take, if_pos (by omega)] at h1
    simpa using h1
theorem Nums.none (w : World) (B : Nat) (hB : B ≤ w.heap.size) : Nums B (w.alloc (.cells #[] 3)) (.slice (some ⟨w.heap.size, 0, .none⟩) 0 0) [] := World.ownsRow_made w #[] 0 hB (by decide) rfl
/-- Blocks below B stay, but for the one that counts. -/
structure But (B g : Nat) (w w' : World) : Prop where
  os : w'.os = w.os
  tape : w'.tape = w.tape
  output : w'.output = w.output
  size : w.heap.size ≤ w'.heap.size
  block : ∀ k, k < B → k ≠ g → w'.heap[k]? = w.heap[k]?
theorem But.refl (B g : Nat) (w : World) : But B g w w := ⟨rfl, rfl, rfl, Nat.le_refl _, fun _ _ _ => rfl⟩
theorem But.trans {B g : Nat} {a b c : World} (h : But B g a b) (k : But B g b c) : But B g a c :=
  ⟨k.os.trans h.os, k.tape.trans h.tape, k.output.trans h.output, Nat.le_trans h.size k.size, fun i hi hg => (k.block i hi hg).trans (h.block i hi hg)⟩
theorem But.mono {B B' g : Nat} {w w' : World} (h : But B g w w') (hB : B' ≤ B) : But B' g w w' := ⟨h.os, h.tape, h.output, h.size, fun k hk => h.block k (Nat.lt_of_lt_of_le hk hB)⟩
theorem But.of {B g : Nat} {w w' : World} (h : Below B w w') : But B g w w' := ⟨h.os, h.tape, h.output, h.size, fun k hk _ => h.block k hk⟩
theorem But.drew {B g : Nat} {a w : World} (h : But B g a w) : But B g a w.drew := ⟨h.os, h.tape, h.output, h.size, h.block⟩
theorem But.alloc {B g : Nat} {a w : World} (h : But B g a w) (hB : B ≤ w.heap.size) (o : Obj) : But B g a (w.alloc o) := h.trans (But.of ((Below.refl B w).alloc hB o))
theorem But.setCell {B g : Nat} {a w : World} (h : But B g a w) {p : Addr} (hp : B ≤ p.block ∨ p.block = g) (u : Value) : But B g a (w.setCell p u) := by
  refine h.trans ⟨rfl, rfl, rfl, by simp [World.setCell], fun k hk hg => ?_⟩
  exact Below.heap_setCell w p u k (by rintro rfl; rcases hp with hp | hp <;> omega)
theorem But.cell {B g : Nat} {w w' : World} (h : But B g w w') {p : Addr} (hp : p.block < B) (hg : p.block ≠ g) : w'.cell? p = w.cell? p := World.cell?_of_block (w := w) (h.block p.block hp hg)
theorem But.keeps {S : Nat → Prop} {g : Nat} {w w' : World} (h : But w.heap.size g w w') (hS : ∀ k, S k → k ≠ g) : Keeps S w w' := by
  intro k c T fz hs hg _
  exact ⟨fz, by rw [h.block k (Array.getElem?_eq_some_iff.1 hg).1 (hS k hs)]; exact hg⟩
theorem Nums.below {B : Nat} {w w' : World} {v : Value} {ms : List Int} (h : Nums B w v ms) (hb : Below w.heap.size w w') : Nums B w' v ms := by
  refine World.ownsRow.kept h (Below.grownRow hb Option.none) ?_
  cases v.ownBlock <;> simp
/-- Blocks below B stay, but for two. -/
structure Hole (B g o : Nat) (w w' : World) : Prop where
  os : w'.os = w.os
  tape : w'.tape = w.tape
  output : w'.output = w.output
  size : w.heap.size ≤ w'.heap.size
  block : ∀ k, k < B → k ≠ g → k ≠ o → w'.heap[k]? = w.heap[k]?
theorem Hole.refl (B g o : Nat) (w : World) : Hole B g o w w := ⟨rfl, rfl, rfl, Nat.le_refl _, fun _ _ _ _ => rfl⟩
theorem Hole.but {B g o : Nat} {a b c : World} (h : Hole B g o a b) (k : But B g b c) : Hole B g o a c :=
  ⟨k.os.trans h.os, k.tape.trans h.tape, k.output.trans h.output, Nat.le_trans h.size k.size, fun i hi hg ho => (k.block i hi hg).trans (h.block i hi hg ho)⟩
theorem Hole.setCell {B g o : Nat} {a w : World} (h : Hole B g o a w) {p : Addr} (hp : p.block = o) (u : Value) : Hole B g o a (w.setCell p u) :=
  ⟨h.os, h.tape, h.output, Nat.le_trans h.size (by simp [World.setCell]), fun i hi hg ho => (Below.heap_setCell w p u i (by rintro rfl; exact ho hp)).trans (h.block i hi hg ho)⟩
theorem But.grownRow {g : Nat} {w w' : World} (h : But w.heap.size g w w') : w.grownBy w' (some g) := ⟨h.os, h.tape, h.output, h.size, fun k hk hne => h.block k hk (fun e => hne (by rw [e]))⟩
theorem But.grown {B g : Nat} {a w w' : World} {row : Option Nat} (h : But B g a w) (hg : w.grownBy w' row) (hB : B ≤ w.heap.size) (hr : ∀ k, row = some k → B ≤ k) : But B g a w' :=
  h.trans (But.of ((Below.refl B w).grown hg hB hr))
theorem OwnD.but {B g : Nat} {w w' : World} {v : Value} {ds : List Dt} (h : OwnD B w v ds) (hb : But w.heap.size g w w') (hg : g < B) : OwnD B w' v ds := by
  obtain ⟨xs, hown, hd⟩ := h
  refine ⟨xs, hown.kept hb.grownRow ?_, fun j hj => ?_⟩
  · cases hv : v.ownBlock with
    | none => exact .inl rfl
    | some k =>
      right
      intro e
      injection e with e
      have := (hown.lt k hv).1
      omega
  · obtain ⟨cs, h5, h1, h2⟩ := hd j hj
    exact ⟨cs, h5, h1, Dt.At.keeps (hb.keeps (fun k hk => by have := hk.1; omega)) _ _ h2⟩
theorem Hole.below {B g o : Nat} {a b c : World} (h : Hole B g o a b) (k : Below B b c) : Hole B g o a c := h.but (But.of k)
theorem MAt.ne {S : Nat → Prop} {w : World} {v : Value} {ms : List Int} {ob : Nat} {c : Array Value} {fz : Nat × Nat} (h : MAt S w v ms) (ho : w.heap[ob]? = some (.cells c 29 fz)) : MAt (fun x => S x ∧ x ≠ ob) w v ms := by
  rcases h with h | ⟨g, o, cap, arr, fz', h1, h2, h3, h4⟩
  · exact .inl h
  · refine .inr ⟨g, o, cap, arr, fz', h1, ⟨h2, ?_⟩, h3, h4⟩
    rintro rfl
    rw [ho] at h3
    injection h3 with h3
    injection h3 with _ h3 _
    exact absurd h3 (by decide)
end Go.Proofs.Ythhaegncnoekbaa
namespace Go.Proofs.Ythhaegncnoekbaa
open Go.RowKit
set_option linter.unusedVariables false
set_option linter.unusedSimpArgs false
inductive Bd where
  | mk (n : Dt) (q : Int) (d : Dt) (l : List Bd) : Bd
namespace Bd
def name : Bd → Dt | mk n _ _ _ => n
def deep : Bd → Int | mk _ q _ _ => q
def dat : Bd → Dt | mk _ _ d _ => d
def rows : Bd → List Bd | mk _ _ _ l => l
mutual
def size : Bd → Nat | mk n _ d l => n.size + d.size + sizes l + 1
def sizes : List Bd → Nat
  | [] => 0
  | b :: r => b.size + sizes r
end
end Bd
/-- A datum's five cells, by its own words. -/
def Dt.five (d : Dt) (mv lv : Value) : List Value := [.int .i64 d.kind, .string d.text, mv, lv, .int .i64 d.place]
mutual
/-- The twelve cells cs are this binding; all blocks that it leads to are some of S. -/
def Bd.At (S : Nat → Prop) (w : World) : Bd → Array Value → Prop
  | .mk n q d l, cs => ∃ m1 l1 m2 l2 lv, cs = (n.five m1 l1 ++ [Value.int .i64 q] ++ d.five m2 l2 ++ [lv]).toArray ∧ Dt.At S w n (n.five m1 l1).toArray ∧ Dt.At S w d (d.five m2 l2).toArray ∧
      ((lv = .slice none 0 0 ∧ l = []) ∨ ∃ g o cap arr fz, lv = .slice (some ⟨g, o, none⟩) l.length cap ∧ S g ∧ w.heap[g]? = some (.cells arr 102 fz) ∧ Bds.At S w l arr o)
/-- From place o on the cells of a row are these bindings, one behind the other. -/
def Bds.At (S : Nat → Prop) (w : World) : List Bd → Array Value → Nat → Prop
  | [], _, _ => True
  | b :: l, arr, o => (∃ cs, (∀ i, i < 12 → arr[o + i]? = cs[i]?) ∧ Bd.At S w b cs) ∧ Bds.At S w l arr (o + 12)
end
/-- A slice of bindings that reads as l. -/
def BsAt (S : Nat → Prop) (w : World) (lv : Value) (l : List Bd) : Prop :=
  (lv = .slice none 0 0 ∧ l = []) ∨ ∃ g o cap arr fz, lv = .slice (some ⟨g, o, none⟩) l.length cap ∧ S g ∧ w.heap[g]? = some (.cells arr 102 fz) ∧ Bds.At S w l arr o
theorem BdAt_mk (S : Nat → Prop) (w : World) (n : Dt) (q : Int) (d : Dt) (l : List Bd) (cs : Array Value) :
    Bd.At S w (.mk n q d l) cs ↔ ∃ m1 l1 m2 l2 lv, cs = (n.five m1 l1 ++ [Value.int .i64 q] ++ d.five m2 l2 ++ [lv]).toArray ∧ Dt.At S w n (n.five m1 l1).toArray ∧ Dt.At S w d (d.five m2 l2).toArray ∧ BsAt S w lv l := by
  unfold Bd.At BsAt; rfl
/-- All rows stand. -/
def KeepsB (S : Nat → Prop) (w w' : World) : Prop := ∀ g c T fz, S g → w.heap[g]? = some (.cells c T fz) → ∃ fz', w'.heap[g]? = some (.cells c T fz')
theorem KeepsB.keeps {S : Nat → Prop} {w w' : World} (h : KeepsB S w w') : Keeps S w w' := fun g c T fz hs hg _ => h g c T fz hs hg
theorem KeepsB.of_below {S : Nat → Prop} {w w' : World} (h : Below w.heap.size w w') : KeepsB S w w' := fun g c T fz _ hg => ⟨fz, by rw [h.block g (Array.getElem?_eq_some_iff.1 hg).1]; exact hg⟩
theorem KeepsB.of_grown {S : Nat → Prop} {w w' : World} {row : Option Nat} (h : w.grownBy w' row) (hS : ∀ g, S g → some g ≠ row) : KeepsB S w w' := fun g c T fz hs hg => ⟨fz, by rw [h.block g (Array.getElem?_eq_some_iff.1 hg).1 (hS g hs)]; exact hg⟩
theorem keepsB_low {B : Nat} {w w' : World} (h : Below B w w') : KeepsB (fun g => g < B) w w' := fun g c T fz hs hg => ⟨fz, by rw [h.block g hs]; exact hg⟩
mutual
theorem Bd.At.keeps {S : Nat → Prop} {w w' : World} (k : KeepsB S w w') : ∀ (b : Bd) (cs : Array Value), Bd.At S w b cs → Bd.At S w' b cs
  | .mk n q d l, cs, h => by
    rw [BdAt_mk] at h ⊢
    obtain ⟨m1, l1, m2, l2, lv, e, hn, hd, hl⟩ := h
    refine ⟨m1, l1, m2, l2, lv, e, hn.keeps k.keeps, hd.keeps k.keeps, ?_⟩
    rcases hl with hl | ⟨g, o, cap, arr, fz, h1, h2, h3, h4⟩
    · exact .inl hl
    · obtain ⟨fz', h5⟩ := k g arr 102 fz h2 h3
      exact .inr ⟨g, o, cap, arr, fz', h1, h2, h5, Bds.At.keeps k l arr o h4⟩
theorem Bds.At.keeps {S : Nat → Prop} {w w' : World} (k : KeepsB S w w') : ∀ (l : List Bd) (arr : Array Value) (o : Nat), Bds.At S w l arr o → Bds.At S w' l arr o
  | [], _, _, _ => by unfold Bds.At; trivial
  | b :: l, arr, o, h => by
    unfold Bds.At at h ⊢
    obtain ⟨⟨cs, hc, hd⟩, hr⟩ := h
    exact ⟨⟨cs, hc, Bd.At.keeps k b cs hd⟩, Bds.At.keeps k l arr (o + 12) hr⟩
end
mutual
theorem Bd.At.mono {S T : Nat → Prop} {w : World} (k : ∀ g, S g → T g) : ∀ (b : Bd) (cs : Array Value), Bd.At S w b cs → Bd.At T w b cs
  | .mk n q d l, cs, h => by
    rw [BdAt_mk] at h ⊢
    obtain ⟨m1, l1, m2, l2, lv, e, hn, hd, hl⟩ := h
    refine ⟨m1, l1, m2, l2, lv, e, hn.mono k, hd.mono k, ?_⟩
    rcases hl with hl | ⟨g, o, cap, arr, fz, h1, h2, h3, h4⟩
    · exact .inl hl
    · exact .inr ⟨g, o, cap, arr, fz, h1, k g h2, h3, Bds.At.mono k l arr o h4⟩
theorem Bds.At.mono {S T : Nat → Prop} {w : World} (k : ∀ g, S g → T g) : ∀ (l : List Bd) (arr : Array Value) (o : Nat), Bds.At S w l arr o → Bds.At T w l arr o
  | [], _, _, _ => by unfold Bds.At; trivial
  | b :: l, arr, o, h => by
    unfold Bds.At at h ⊢
    obtain ⟨⟨cs, hc, hd⟩, hr⟩ := h
    exact ⟨⟨cs, hc, Bd.At.mono k b cs hd⟩, Bds.At.mono k l arr (o + 12) hr⟩
end
mutual
theorem Bd.At.bound {S : Nat → Prop} {w : World} : ∀ (b : Bd) (cs : Array Value), Bd.At S w b cs → Bd.At (fun g => S g ∧ g < w.heap.size) w b cs
  | .mk n q d l, cs, h => by
    rw [BdAt_mk] at h ⊢
    obtain ⟨m1, l1, m2, l2, lv, e, hn, hd, hl⟩ := h
    refine ⟨m1, l1, m2, l2, lv, e, hn.bound, hd.bound, ?_⟩
    rcases hl with hl | ⟨g, o, cap, arr, fz, h1, h2, h3, h4⟩
    · exact .inl hl
    · exact .inr ⟨g, o, cap, arr, fz, h1, ⟨h2, (Array.getElem?_eq_some_iff.1 h3).1⟩, h3, Bds.At.bound l arr o h4⟩
theorem Bds.At.bound {S : Nat → Prop} {w : World} : ∀ (l : List Bd) (arr : Array Value) (o : Nat), Bds.At S w l arr o → Bds.At (fun g => S g ∧ g < w.heap.size) w l arr o
  | [], _, _, _ => by unfold Bds.At; trivial
  | b :: l, arr, o, h => by
    unfold Bds.At at h ⊢
    obtain ⟨⟨cs, hc, hd⟩, hr⟩ := h
    exact ⟨⟨cs, hc, Bd.At.bound b cs hd⟩, Bds.At.bound l arr (o + 12) hr⟩
end
theorem Bds.At.get {S : Nat → Prop} {w : World} : ∀ (l : List Bd) (arr : Array Value) (o : Nat), Bds.At S w l arr o → ∀ j (h : j < l.length), ∃ cs, (∀ i, i < 12 → arr[o + 12 * j + i]? = cs[i]?) ∧ Bd.At S w l[j] cs
  | [], _, _, _, j, h => by simp at h
  | b :: l, arr, o, H, j, h => by
    unfold Bds.At at H
    cases j with
    | zero => simpa using H.1
    | succ j =>
      obtain ⟨cs, h1, h2⟩ := Bds.At.get l arr (o + 12) H.2 j (by simpa using h)
      exact ⟨cs, fun i hi => by rw [← h1 i hi]; congr 1; omega, h2⟩
theorem Bds.At.of_get {S : Nat → Prop} {w : World} : ∀ (l : List Bd) (arr : Array Value) (o : Nat), (∀ j (h : j < l.length), ∃ cs, (∀ i, i < 12 → arr[o + 12 * j + i]? = cs[i]?) ∧ Bd.At S w l[j] cs) → Bds.At S w l arr o
  | [], _, _, _ => by unfold Bds.At; trivial
  | b :: l, arr, o, H => by
    unfold Bds.At
    refine ⟨?_, Bds.At.of_get l arr (o + 12) fun j h => ?_⟩
    · have := H 0 (by simp)
      simpa using this
    · obtain ⟨cs, h1, h2⟩ := H (j + 1) (by simpa using h)
      exact ⟨cs, fun i hi => by rw [← h1 i hi]; congr 1; omega, by simpa using h2⟩
theorem BsAt.keeps {S : Nat → Prop} {w w' : World} {lv : Value} {l : List Bd} (h : BsAt S w lv l) (k : KeepsB S w w') : BsAt S w' lv l := by
  rcases h with h | ⟨g, o, cap, arr, fz, h1, h2, h3, h4⟩
  · exact .inl h
  · obtain ⟨fz', h5⟩ := k g arr 102 fz h2 h3
    exact .inr ⟨g, o, cap, arr, fz', h1, h2, h5, Bds.At.keeps k l arr o h4⟩
theorem BsAt.mono {S T : Nat → Prop} {w : World} {lv : Value} {l : List Bd} (h : BsAt S w lv l) (k : ∀ g, S g → T g) : BsAt T w lv l := by
  rcases h with h | ⟨g, o, cap, arr, fz, h1, h2, h3, h4⟩
  · exact .inl h
  · exact .inr ⟨g, o, cap, arr, fz, h1, k g h2, h3, Bds.At.mono k l arr o h4⟩
theorem BsAt.form {S : Nat → Prop} {w : World} {v : Value} {l : List Bd} (h : BsAt S w v l) : ∃ ao c, v = .slice ao l.length c := by
  rcases h with ⟨rfl, rfl⟩ | ⟨g, o, cap, arr, fz, rfl, _⟩
  · exact ⟨none, 0, rfl⟩
  · exact ⟨_, _, rfl⟩
theorem BsAt.one {S : Nat → Prop} {w : World} {v : Value} {l : List Bd} (h : BsAt S w v l) : v.oneCell' = true := by
  obtain ⟨ao, c, rfl⟩ := h.form; rfl
theorem BsAt.get {S : Nat → Prop} {w : World} {ao : Option Addr} {n cap : Nat} {l : List Bd} (h : BsAt S w (.slice ao n cap) l) (j : Nat) (hj : j < l.length) :
    ∃ g o arr fz cs, ao = some ⟨g, o, none⟩ ∧ S g ∧ w.heap[g]? = some (.cells arr 102 fz) ∧ (∀ i, i < 12 → w.cell? ⟨g, o + j * 12 + i, none⟩ = cs[i]?) ∧ Bd.At S w l[j] cs := by
  rcases h with ⟨_, rfl⟩ | ⟨g, o, cap', arr, fz, e, hS, hg, hd⟩
  · simp at hj
  · injection e with e1 e2 e3
    subst e1
    obtain ⟨cs, h1, h2⟩ := Bds.At.get l arr o hd j hj
    exact ⟨g, o, arr, fz, cs, rfl, hS, hg, fun i hi => by rw [Lib.cell_of_heap hg, show o + j * 12 + i = o + 12 * j + i by omega]; exact h1 i hi, h2⟩
/-- A row of bindings that the call owns (from block B on): v leads to it; the bindings' own blocks are others. -/
def OwnB (B : Nat) (w : World) (v : Value) (bs : List Bd) : Prop :=
  ∃ xs, w.ownsRow B 102 12 v bs.length xs ∧ ∀ j (h : j < bs.length), ∃ cs : Array Value, cs.size = 12 ∧ (∀ i, i < 12 → xs[12 * j + i]? = cs[i]?) ∧ Bd.At (fun g => B ≤ g ∧ v.ownBlock ≠ some g) w bs[j] cs
theorem OwnB.nil (B : Nat) (w : World) : OwnB B w (.slice none 0 0) [] := ⟨[], World.ownsRow_nil _ _ _ _, fun j h => by simp at h⟩
theorem OwnB.at {B : Nat} {w : World} {v : Value} {bs : List Bd} (h : OwnB B w v bs) : BsAt (fun g => B ≤ g) w v bs := by
  obtain ⟨xs, hown, hd⟩ := h
  rcases hown.2 with ⟨rfl, hz⟩ | ⟨g, cap, cur, rfl, hbg, hg, hnc, hcm, hcs, htake⟩
  · exact .inl ⟨rfl, List.length_eq_zero_iff.1 hz⟩
  · refine .inr ⟨g, 0, cap, cur, (0, 0), rfl, hbg, hg, Bds.At.of_get _ _ _ fun j hj => ?_⟩
    obtain ⟨cs, h5, h1, h2⟩ := hd j hj
    refine ⟨cs, fun i hi => ?_, Bd.At.mono (fun g h => h.1) _ _ h2⟩
    rw [← h1 i hi, ← htake, List.getElem?_take, if_pos (by omega)]
    simp
/-- One binding more at the row's end. -/
theorem OwnB.snoc {B : Nat} {w w' : World} {v v' : Value} {bs : List Bd} {xs : List Value} {b : Bd} {cs : Array Value} (hx : ∀ j (h : j < bs.length), ∃ cs : Array Value, cs.size = 12 ∧ (∀ i, i < 12 → xs[12 * j + i]? = cs[i]?) ∧ Bd.At (fun g => B ≤ g ∧ v.ownBlock ≠ some g) w bs[j] cs)
    (hl : xs.length = bs.length * 12) (h5 : cs.size = 12) (hd : Bd.At (fun g => B ≤ g ∧ v.ownBlock ≠ some g) w b cs)
    (hown : w'.ownsRow B 102 12 v' (bs.length + 1) (xs ++ cs.toList)) (hg : w.grownBy w' v.ownBlock) (hv : v'.ownBlock = v.ownBlock ∨ v'.ownBlock = some w.heap.size) : OwnB B w' v' (bs ++ [b]) := by
  have key : ∀ (d : Bd) (cs : Array Value), Bd.At (fun g => B ≤ g ∧ v.ownBlock ≠ some g) w d cs → Bd.At (fun g => B ≤ g ∧ v'.ownBlock ≠ some g) w' d cs := by
    intro d cs h
    have h1 := Bd.At.bound d cs h
    have h2 := Bd.At.keeps (KeepsB.of_grown hg (S := fun g => (B ≤ g ∧ v.ownBlock ≠ some g) ∧ g < w.heap.size) (fun g hs e => hs.1.2 e.symm)) d cs h1
    refine Bd.At.mono (fun g hs => ⟨hs.1.1, ?_⟩) d cs h2
    rcases hv with e | e
    · rw [e]; exact hs.1.2
    · rw [e]; intro e2; injection e2 with e2; omega
  refine ⟨xs ++ cs.toList, by simpa using hown, fun j hj => ?_⟩
  by_cases hlt : j < bs.length
  · obtain ⟨c, c5, c1, c2⟩ := hx j hlt
    refine ⟨c, c5, fun i hi => ?_, ?_⟩
    · rw [List.getElem?_append_left (by omega)]; exact c1 i hi
    · rw [List.getElem_append_left hlt]; exact key _ _ c2
  · have hj' : j = bs.length := by simp at hj; omega
    subst hj'
    refine ⟨cs, h5, fun i hi => ?_, ?_⟩
    · rw [List.getElem?_append_right (by omega), show 12 * bs.length + i - xs.length = i by omega]; simp
    · rw [List.getElem_append_right (by omega)]
      simp
      exact key _ _ hd
theorem OwnB.low {B : Nat} {w : World} {v : Value} {bs : List Bd} (h : OwnB B w v bs) : ∀ x, v.ownBlock = some x → B ≤ x ∧ x < w.heap.size := by
  obtain ⟨xs, ho, _⟩ := h
  exact ho.lt
theorem OwnB.below {B : Nat} {w w' : World} {v : Value} {bs : List Bd} (h : OwnB B w v bs) (hb : Below w.heap.size w w') : OwnB B w' v bs := by
  obtain ⟨xs, ho, hd⟩ := h
  refine ⟨xs, ho.kept (Below.grownRow hb none) (by cases v.ownBlock <;> simp), fun j hj => ?_⟩
  obtain ⟨cs, h5, h1, h2⟩ := hd j hj
  exact ⟨cs, h5, h1, Bd.At.keeps (KeepsB.of_below hb) _ _ h2⟩
theorem OwnB.form {B : Nat} {w : World} {v : Value} {bs : List Bd} (h : OwnB B w v bs) : ∃ ao c, v = .slice ao bs.length c := h.at.form
end Go.Proofs.Ythhaegncnoekbaa
