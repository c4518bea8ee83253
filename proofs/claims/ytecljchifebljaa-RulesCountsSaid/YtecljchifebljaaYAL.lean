/- The document's reader: next: a row of signs; what is nothing; all of it. -/
import Derived.Test.YtecljchifebljaaYAA
import Derived.Test.YtecljchifebljaaYAC
import Derived.Test.YtecljchifebljaaYAI
import Derived.Test.YtecljchifebljaaYAJ
import Derived.Test.YtecljchifebljaaYAK
import Derived.Deep.QuietTactic
import Derived.Deep.RegionHeld3
import Derived.Deep.Cut
import Derived.Test.YtecljchifebljaaYAE
set_option linter.unusedVariables false
set_option linter.unusedSimpArgs false
namespace Go.Proofs.Ytecljchifebljaa
open Go.RowKit Go.BigM
set_option maxHeartbeats 16000000 in
set_option maxRecDepth 100000 in
theorem next_sign {D : Nat → Prop} (g : Nat) (s : ByteArray) (p : Nat) (es : List En) (out : List Dt) (b : UInt8) (w : World) (h : RdAt D w.heap.size w g s p es out) (hgN : g < w.heap.size) (hp : p < s.size) (hb : s[p] = b) (hs : s.size ≤ 8000) (hB : Bnd es out p) (hne : b ≠ 40 ∧ b ≠ 39 ∧ b ≠ 41 ∧ b ≠ 35) (hsg : sset.contains b = true) :
  Calls Try.prog 64 #[.pointer (some ⟨g, 0, none⟩)] w (RetNx g s p b es out w) := by
 obtain ⟨ao, c, bo, dd, hf⟩ := h.form
 obtain ⟨dv, hdv⟩ : ∃ v, v = Value.slice bo out.length dd := ⟨_, rfl⟩
 rw [← hdv] at hf
 have HS := Lib.hid (Stt.start h)
 have HR := Lib.hid hf
 have HB := Lib.hid hB
 have HBB := Lib.hid hb
 have hel : es.length ≤ 60 := hB.2.2
 clear h hB hdv hf hb
 have HNE : Hid (b ≠ 40 ∧ b ≠ 39 ∧ b ≠ 41 ∧ b ≠ 35) := hne
 have n1 : b.toNat ≠ 40 := fun e => hne.1 (u8_is b 40 e)
 have n2 : b.toNat ≠ 39 := fun e => hne.2.1 (u8_is b 39 e)
 have n3 : b.toNat ≠ 41 := fun e => hne.2.2.1 (u8_is b 41 e)
 have n4 : b.toNat ≠ 35 := fun e => hne.2.2.2 (u8_is b 35 e)
 have E40 : ((b.toNat : Int) == 40) = false := by simpa using (show ¬ (b.toNat : Int) = 40 by omega)
 have E39 : ((b.toNat : Int) == 39) = false := by simpa using (show ¬ (b.toNat : Int) = 39 by omega)
 have E41 : ((b.toNat : Int) == 41) = false := by simpa using (show ¬ (b.toNat : Int) = 41 by omega)
 have E35 : ((b.toNat : Int) == 35) = false := by simpa using (show ¬ (b.toNat : Int) = 35 by omega)
 clear hne n1 n2 n3 n4
 go_enter Try.func64, Try.ntmps64
 go_upto_region 1 with fail
 have HC : Hid (∀ w', Below w.heap.size w w' → w'.cell? ⟨g, 0, none⟩ = some (.string s) ∧ w'.cell? ⟨g, 1, none⟩ = some (.int .i64 (p : Int)) ∧ w'.cell? ⟨g, 2, none⟩ = some (.slice ao es.length c) ∧ w'.cell? ⟨g, 3, none⟩ = some dv) := fun w' hw' => by
  have h9 : w'.heap[g]? = some (.cells #[.string s, .int .i64 (p : Int), .slice ao es.length c, dv] 114 (0, 0)) := by rw [hw'.block g HR.out.lt]; exact HR.out
  exact Rs3.cells (p := p) h9
 have HS0 : Hid (Below w.heap.size w w.drew) := (Below.refl _ _).drew
 replace HS : Hid (Stt D g s p es out w w.drew) := HS.out.drew HR.out.lt
 replace HR : Hid (Rs3 w.drew g s p (.slice ao es.length c) dv) := HR.out
 refine wp_region_noPanic ?_
 refine wp_region_held_drew (S := Below w.heap.size w) (by kernel_rfl) HS0.out (fun hHeld => ?_)
 generalize w.drew = X1 at HS0 HS HR hHeld ⊢
 refine qts [0, 1, 2, 3, 4, 5, 6, 7, 8, 9] hHeld ?_
 iterate 8 (refine qtc (v := ?_) rfl rfl (fun w' hw' => ?_) ?_; rotate_left; (focus ((obtain ⟨d0, d1, d2, d3⟩ := HC.out w' hw'; go_simp); try with_reducible rfl)); simp only [zt,zs,zz,Act.put,zi,zy,zx])
 (refine qtc (v := Value.int .u8 ((s[p]'hp).toNat : Int)) rfl rfl (fun w' hw' => ?_) ?_; (focus (go_simp)); simp only [zt,zs,zz,Act.put,zi,zy,zx])
 (refine qtc (v := ?_) rfl rfl (fun w' hw' => ?_) ?_; rotate_left; (focus ((obtain ⟨d0, d1, d2, d3⟩ := HC.out w' hw'; go_simp); try with_reducible rfl)); simp only [zt,zs,zz,Act.put,zi,zy,zx])
 refine qtn ?_
 simp only [zt,zs,zz,Act.put,zi,zy,zx,qzl,qzn,qza,Nat.reduceAdd,Nat.reduceSub]
 refine wpAnyH_done (by kernel_rfl) ?_ _
 refine NoPanic.normal ?_
 clear hHeld
 clear HC HS0
 rw [HBB.out]
 have FR := Lib.hid (row3_any g s p es out b X1 HS.out.rd HR.out.lt hp HBB.out hsg hs HB.out)
 have HSG := Lib.hid hsg
 have FS : Hid (∀ w, Calls Try.prog 85 #[.int .u8 (b.toNat : Int)] w fun e w' => e = .returned (.bool true) ∧ w = w') := fun w => hsg ▸ sign_any b w
 clear hsg
 go_wp2_with fail
 refine (FS.out _).mono ?_
 rintro e w' ⟨rfl, rfl⟩
 go_wp2_with fail
 refine FR.out.mono ?_
 rintro e7 w7 ⟨rfl, hbl, hsz, hz0, hz1⟩
 have HB7 := Lib.hid hbl
 have HZ7 := Lib.hid hsz
 have HA := Lib.hid hz0
 have HBZ := Lib.hid hz1
 obtain ⟨ec, hec⟩ : ∃ ec, ec = (nxt s p b es out).1 := ⟨_, rfl⟩
 rw [← hec]
 have HEC := Lib.hid hec
 clear hbl hsz hz0 hz1 hec
 go_wp2_with fail
 go_ret
 unfold RetNx
 rw [← HEC.out]
 exact ⟨rfl, HS.out.low.trans HB7.out, by have h1 := HS.out.size; have h2 := HZ7.out; omega, fun h => HA.out (by rw [← HEC.out]; exact h), fun h => HBZ.out (by rw [← HEC.out]; exact h)⟩
set_option maxHeartbeats 16000000 in
set_option maxRecDepth 100000 in
theorem next_none {D : Nat → Prop} (g : Nat) (s : ByteArray) (p : Nat) (es : List En) (out : List Dt) (b : UInt8) (w : World) (h : RdAt D w.heap.size w g s p es out) (hgN : g < w.heap.size) (hp : p < s.size) (hb : s[p] = b) (hs : s.size ≤ 8000) (hB : Bnd es out p) (hne : b ≠ 40 ∧ b ≠ 39 ∧ b ≠ 41 ∧ b ≠ 35) (hsg : sset.contains b = false) :
  Calls Try.prog 64 #[.pointer (some ⟨g, 0, none⟩)] w (RetNx g s p b es out w) := by
 obtain ⟨ao, c, bo, dd, hf⟩ := h.form
 obtain ⟨dv, hdv⟩ : ∃ v, v = Value.slice bo out.length dd := ⟨_, rfl⟩
 rw [← hdv] at hf
 have HS := Lib.hid (Stt.start h)
 have HR := Lib.hid hf
 have HB := Lib.hid hB
 have HBB := Lib.hid hb
 have hel : es.length ≤ 60 := hB.2.2
 clear h hB hdv hf hb
 have HNE : Hid (b ≠ 40 ∧ b ≠ 39 ∧ b ≠ 41 ∧ b ≠ 35) := hne
 have n1 : b.toNat ≠ 40 := fun e => hne.1 (u8_is b 40 e)
 have n2 : b.toNat ≠ 39 := fun e => hne.2.1 (u8_is b 39 e)
 have n3 : b.toNat ≠ 41 := fun e => hne.2.2.1 (u8_is b 41 e)
 have n4 : b.toNat ≠ 35 := fun e => hne.2.2.2 (u8_is b 35 e)
 have E40 : ((b.toNat : Int) == 40) = false := by simpa using (show ¬ (b.toNat : Int) = 40 by omega)
 have E39 : ((b.toNat : Int) == 39) = false := by simpa using (show ¬ (b.toNat : Int) = 39 by omega)
 have E41 : ((b.toNat : Int) == 41) = false := by simpa using (show ¬ (b.toNat : Int) = 41 by omega)
 have E35 : ((b.toNat : Int) == 35) = false := by simpa using (show ¬ (b.toNat : Int) = 35 by omega)
 clear hne n1 n2 n3 n4
 go_enter Try.func64, Try.ntmps64
 go_upto_region 1 with fail
 have HC : Hid (∀ w', Below w.heap.size w w' → w'.cell? ⟨g, 0, none⟩ = some (.string s) ∧ w'.cell? ⟨g, 1, none⟩ = some (.int .i64 (p : Int)) ∧ w'.cell? ⟨g, 2, none⟩ = some (.slice ao es.length c) ∧ w'.cell? ⟨g, 3, none⟩ = some dv) := fun w' hw' => by
  have h9 : w'.heap[g]? = some (.cells #[.string s, .int .i64 (p : Int), .slice ao es.length c, dv] 114 (0, 0)) := by rw [hw'.block g HR.out.lt]; exact HR.out
  exact Rs3.cells (p := p) h9
 have HS0 : Hid (Below w.heap.size w w.drew) := (Below.refl _ _).drew
 replace HS : Hid (Stt D g s p es out w w.drew) := HS.out.drew HR.out.lt
 replace HR : Hid (Rs3 w.drew g s p (.slice ao es.length c) dv) := HR.out
 refine wp_region_noPanic ?_
 refine wp_region_held_drew (S := Below w.heap.size w) (by kernel_rfl) HS0.out (fun hHeld => ?_)
 generalize w.drew = X1 at HS0 HS HR hHeld ⊢
 refine qts [0, 1, 2, 3, 4, 5, 6, 7, 8, 9] hHeld ?_
 iterate 8 (refine qtc (v := ?_) rfl rfl (fun w' hw' => ?_) ?_; rotate_left; (focus ((obtain ⟨d0, d1, d2, d3⟩ := HC.out w' hw'; go_simp); try with_reducible rfl)); simp only [zt,zs,zz,Act.put,zi,zy,zx])
 (refine qtc (v := Value.int .u8 ((s[p]'hp).toNat : Int)) rfl rfl (fun w' hw' => ?_) ?_; (focus (go_simp)); simp only [zt,zs,zz,Act.put,zi,zy,zx])
 (refine qtc (v := ?_) rfl rfl (fun w' hw' => ?_) ?_; rotate_left; (focus ((obtain ⟨d0, d1, d2, d3⟩ := HC.out w' hw'; go_simp); try with_reducible rfl)); simp only [zt,zs,zz,Act.put,zi,zy,zx])
 refine qtn ?_
 simp only [zt,zs,zz,Act.put,zi,zy,zx,qzl,qzn,qza,Nat.reduceAdd,Nat.reduceSub]
 refine wpAnyH_done (by kernel_rfl) ?_ _
 refine NoPanic.normal ?_
 clear hHeld
 clear HC HS0
 rw [HBB.out]
 have HN : Hid (nxt s p b es out = (3, p, es, out)) := by
  show _ = _
  have hl := drop_at s p hp
  rw [HBB.out] at hl
  refine nxt_tok HNE.out.1 HNE.out.2.1 HNE.out.2.2.1 (r := none) ?_
  rw [hl]
  unfold tokOf
  have h35 : (35 : UInt8) ≠ b := fun e => HNE.out.2.2.2 e.symm
  rw [if_neg (by simp [Lib.hasPrefix, List.isPrefixOf, h35])]
  rw [if_pos (by unfold rowOf; rw [List.takeWhile_cons, hsg]; rfl)]
 have FS : Hid (∀ w, Calls Try.prog 85 #[.int .u8 (b.toNat : Int)] w fun e w' => e = .returned (.bool false) ∧ w = w') := fun w => hsg ▸ sign_any b w
 clear hsg
 go_wp2_with fail
 refine (FS.out _).mono ?_
 rintro e w' ⟨rfl, rfl⟩
 go_wp2_with fail
 go_ret
 have hn := HN.out
 unfold RetNx
 rw [hn]
 exact ⟨rfl, HS.out.low, HS.out.size, fun h => absurd h (by simp), fun _ => ⟨_, _, HR.out⟩⟩
theorem next_any {D : Nat → Prop} (g : Nat) (s : ByteArray) (p : Nat) (es : List En) (out : List Dt) (b : UInt8) (w : World) (h : RdAt D w.heap.size w g s p es out) (hgN : g < w.heap.size) (hp : p < s.size) (hb : s[p] = b) (hs : s.size ≤ 8000) (hB : Bnd es out p) :
  Calls Try.prog 64 #[.pointer (some ⟨g, 0, none⟩)] w (RetNx g s p b es out w) := by
 by_cases h1 : b = 40
 ·exact next_open40 g s p es out b w h hgN hp hb hs hB h1
 by_cases h2 : b = 39
 ·exact next_open39 g s p es out b w h hgN hp hb hs hB h2
 by_cases h3 : b = 41
 ·exact next_close g s p es out b w h hgN hp hb hs hB h3
 by_cases h4 : b = 35
 ·by_cases hp1 : p + 1 < s.size
  ·by_cases h116 : (s[p + 1]'hp1).toNat = 116
   ·by_cases hp2 : p + 2 < s.size
    ·cases hsg : sset.contains (s[p + 2]'hp2) with
     | true => exact next_hash_C1 g s p es out b w h hgN hp hb hs hB h4 hp1 h116 hp2 hsg
     | false => exact next_hash_C2 g s p es out b w h hgN hp hb hs hB h4 hp1 h116 hp2 hsg
    ·exact next_hash_C3 g s p es out b w h hgN hp hb hs hB h4 hp1 h116 hp2
   ·by_cases h102 : (s[p + 1]'hp1).toNat = 102
    ·by_cases hp2 : p + 2 < s.size
     ·cases hsg : sset.contains (s[p + 2]'hp2) with
      | true => exact next_hash_D1 g s p es out b w h hgN hp hb hs hB h4 hp1 h116 h102 hp2 hsg
      | false => exact next_hash_D2 g s p es out b w h hgN hp hb hs hB h4 hp1 h116 h102 hp2 hsg
     ·exact next_hash_D3 g s p es out b w h hgN hp hb hs hB h4 hp1 h116 h102 hp2
    ·exact next_hash_B g s p es out b w h hgN hp hb hs hB h4 hp1 h116 h102
  ·exact next_hash_A g s p es out b w h hgN hp hb hs hB h4 hp1
 cases h5 : sset.contains b with
 | true => exact next_sign g s p es out b w h hgN hp hb hs hB ⟨h1, h2, h3, h4⟩ h5
 | false => exact next_none g s p es out b w h hgN hp hb hs hB ⟨h1, h2, h3, h4⟩ h5
end Go.Proofs.Ytecljchifebljaa
namespace Go.Proofs.Ytecljchifebljaa
open Go.RowKit Go.BigM
def RdI (g : Nat) (s : ByteArray) (R : Rs) (w wr : World) : Prop := ∃ (D : Nat → Prop) (p : Nat) (es : List En) (out : List Dt) (e : En) (r : List En) (n : Nat),
 RdAt D wr.heap.size wr g s p es out ∧ Below g w wr ∧ g < wr.heap.size ∧ p ≤ s.size ∧ Bnd es out p ∧ e :: r = stk es out ∧ rd s.data.toList n .next p e r = some R
theorem RdAt.out_lat {D : Nat → Prop} {N : Nat} {w : World} {g : Nat} {s : ByteArray} {p : Nat} {es : List En} {out : List Dt} (h : RdAt D N w g s p es out) {ov dv : Value} (hr : Rs3 w g s p ov dv) : LAt (fun x => g ≤ x) w dv out := by
 obtain ⟨ov2, dv2, xs, hR, ho, hd, hD, _⟩ := h
 unfold Rs3 at hr hR
 rw [hR] at hr
 injection hr with hr
 injection hr with hr _ _
 simp only [Array.mk.injEq, List.cons.injEq, and_true, true_and] at hr
 obtain ⟨_, rfl⟩ := hr
 exact hd.lat.mono (fun x hx => by
  rcases hx with h | h
  ·have := (hD x h).1; omega
  ·have := (hd.lt h).1; omega)
set_option maxHeartbeats 16000000 in
set_option maxRecDepth 100000 in
theorem ref_read_any (s : ByteArray) (w : World) (hs : s.size ≤ 8000) (n : Nat) (R : Rs) (hR : rd s.data.toList n .next 0 ⟨0, false, []⟩ [] = some R) :
  Calls Try.prog 41 #[.string s] w (RetRead w R) := by
 have HST0 : Hid (RdI w.heap.size s R w (w.alloc (.cells #[.string s, .int .i64 0, .slice none 0 0, .slice none 0 0] 114))) :=
  ⟨_, 0, [], [], ⟨0, false, []⟩, [], n, by rw [show (w.alloc (.cells #[.string s, .int .i64 0, .slice none 0 0, .slice none 0 0] 114)).heap.size = w.heap.size + 1 by simp]; exact RdAt.start w s, (Below.refl _ _).alloc (Nat.le_refl _) _, by simp, Nat.zero_le _, ⟨fun x hx => absurd hx (by simp), by simp, by simp⟩, rfl, hR⟩
 have q0 : decide (8000 < (s.size : Int)) = false := decide_eq_false (by omega)
 clear hR
 go_enter Try.func41, Try.ntmps41
 go_wp2_with fail
 go_loopw [] (fun wr => RdI w.heap.size s R w wr) (fun wr => s.size - plc w.heap.size wr)
 case atStart => exact HST0.out
 case round =>
  clear HST0
  obtain ⟨D, p, es, out, e, r, n, hRD, hlow, hgl, hp, hB, hstk, hrd⟩ := hrel
  obtain ⟨ao, c, bo, dd, hf⟩ := hRD.form
  obtain ⟨q, hq⟩ : ∃ q, q = gapAt s false p := ⟨_, rfl⟩
  have FS := Lib.hid (skip_any w.heap.size s p _ _ wr hf hp (by omega))
  have HRD := Lib.hid hRD
  have HLOW := Lib.hid hlow
  have HB := Lib.hid hB
  have HSTK := Lib.hid hstk
  have HRDN := Lib.hid hrd
  have HPW := Lib.hid hf.plc
  have HF := Lib.hid hf
  have HQ := Lib.hid hq
  have hpq : p ≤ q := by rw [hq]; unfold gapAt; omega
  clear hRD hlow hB hstk hrd hf hq
  go_wp2_with fail
  refine FS.out.mono ?_
  rintro e' w1 ⟨rfl, hR1, hO1, hq1⟩
  rw [← HQ.out] at hR1 hq1
  have HR1 := Lib.hid hR1
  have HRD1 : Hid (RdAt D w1.heap.size w1 w.heap.size s q es out) := by
   show RdAt _ _ _ _ _ _ _ _
   rw [hO1.size]
   exact rd_moved HRD.out HF.out hO1 hR1
  have HLOW1 : Hid (Below w.heap.size w w1) := HLOW.out.trans (only_below hO1)
  have hgl1 : w.heap.size < w1.heap.size := by rw [hO1.size]; exact hgl
  have d1 := hR1.cells.2.1
  clear hR1 hO1 FS HRD HLOW HF hgl
  by_cases hlt : q < s.size
  ·have q1 : decide ((s.size : Int) ≤ (q : Int)) = false := decide_eq_false (by omega)
   obtain ⟨b, hb⟩ : ∃ b, s[q]'hlt = b := ⟨_, rfl⟩
   have hbl : s.data.toList[q]? = some b := by rw [byte_at s q hlt, hb]
   obtain ⟨hne0, hok⟩ := rd_next HSTK.out (HQ.out ▸ rfl) hbl HRDN.out
   have FN := Lib.hid (next_any w.heap.size s q es out b w1 HRD1.out hgl1 hlt hb hs (HB.out.more hpq))
   have HNE := Lib.hid hne0
   have HOK := Lib.hid hok
   have HBQ := Lib.hid (fun h => nxt_bnd (b := b) hlt (HB.out.more hpq) h)
   obtain ⟨nx, hnx⟩ : ∃ nx, nx = nxt s q b es out := ⟨_, rfl⟩
   have HNX := Lib.hid hnx
   clear hne0 hok hb hbl hnx
   go_wp2_with fail
   refine FN.out.mono ?_
   rintro e' w2 ⟨rfl, hl2, hz2, hA, hE⟩
   rw [← HNX.out] at hA hE ⊢
   have HL2 := Lib.hid hl2
   have HZ2 := Lib.hid hz2
   have HA := Lib.hid hA
   have HE := Lib.hid hE
   obtain ⟨ec, eq2, es2, out2⟩ := nx
   simp only [] at HA HE ⊢
   clear hl2 hz2 hA hE d1 FN
   by_cases h0 : ec = 0
   ·have E0 : (ec != 0) = false := by rw [h0]; rfl
    have HNX0 := HNX.out
    have hn1 : (nxt s q b es out).1 = 0 := by rw [← HNX0]; exact h0
    obtain ⟨m, e3, r3, hs3, hr3⟩ := HOK.out hn1
    obtain ⟨b1, b2, b3⟩ := HBQ.out hn1
    obtain ⟨D', hD'⟩ := HA.out h0
    rw [← HNX0] at hs3 hr3 b1 b2 b3
    simp only [] at hs3 hr3 b1 b2 b3
    have HFIN : Hid (RdI w.heap.size s R w w2) := ⟨D', eq2, es2, out2, e3, r3, m, hD', HLOW1.out.trans HL2.out, by have := HZ2.out; omega, b2, b3, hs3, hr3⟩
    obtain ⟨ao4, c4, bo4, dd4, hf4⟩ := hD'.form
    have HM := Lib.hid hf4.plc
    have HB1 := Lib.hid b1
    clear HNX0 hn1 hs3 hr3 b1 b2 b3 hD' hf4 h0
    go_wp2_with fail
    go_roundw
    case rel => exact HFIN.out
    case measure =>
     have h1 := HM.out
     have h2 := HPW.out
     have h3 := HB1.out
     omega
   ·have E0 : (ec != 0) = true := by simpa [bne] using h0
    have HNX0 := HNX.out
    have hn1 : (nxt s q b es out).1 ≠ 0 := by rw [← HNX0]; exact h0
    have hR := HNE.out hn1
    rw [← HNX0] at hR
    obtain ⟨ov5, dv5, h5⟩ := HE.out h0
    have HRR := Lib.hid hR
    have d5 := h5.cells.2.1
    have HL5 : Hid (Below w.heap.size w w2) := HLOW1.out.trans HL2.out
    have H5 := Lib.hid h5
    have h5l := h5.lt
    clear HNX0 hn1 hR h5 h0
    go_upto_region 8 with fail
    have HC : Hid (∀ w', Below w2.heap.size w2 w' → w'.cell? ⟨w.heap.size, 1, none⟩ = some (.int .i64 (q : Int))) := fun w' hw' => (hw'.cell (p := ⟨w.heap.size, 1, none⟩) h5l).trans d5
    clear d5
    have HS0 : Hid (Below w2.heap.size w2 w2.drew) := (Below.refl _ _).drew
    have HL5 : Hid (Below w.heap.size w w2.drew) := HL5.out.trans ((Below.refl _ _).drew)
    refine wp_region_noPanic ?_
    refine wp_region_held_drew (S := Below w2.heap.size w2) (by kernel_rfl) HS0.out (fun hHeld => ?_)
    generalize w2.drew = X at HS0 HL5 hHeld ⊢
    refine qts [0, 1, 2, 3, 4, 5, 6, 7] hHeld ?_
    iterate 3 (refine qtc (v := ?_) rfl rfl (fun w' hw' => ?_) ?_; rotate_left; (focus (go_simp; try with_reducible rfl)); simp only [zt,zs,zz,Act.put,zi,zy,zx])
    (refine qtc (v := ?_) rfl rfl (fun w' hw' => ?_) ?_; rotate_left; (focus ((have q9 := HC.out w' hw'; go_simp); try with_reducible rfl)); simp only [zt,zs,zz,Act.put,zi,zy,zx])
    iterate 4 (refine qtc (v := ?_) rfl rfl (fun w' hw' => ?_) ?_; rotate_left; (focus (go_simp; try with_reducible rfl)); simp only [zt,zs,zz,Act.put,zi,zy,zx])
    refine qtn ?_
    simp only [zt,zs,zz,Act.put,zi,zy,zx,qzl,qzn,qza,Nat.reduceAdd,Nat.reduceSub]
    refine wpAnyH_done (by kernel_rfl) ?_ _
    refine NoPanic.normal ?_
    clear hHeld
    go_wp2_with fail
    go_ret3
    rw [HRR.out]
    exact ⟨HL5.out, rfl⟩
  ·have hqe : q = s.size := by omega
   have q1 : decide ((s.size : Int) ≤ (q : Int)) = true := decide_eq_true (by omega)
   have hbl : s.data.toList[q]? = none := by rw [List.getElem?_eq_none]; rw [← Lib.size_eq]; omega
   have hR := rd_over HSTK.out (HQ.out ▸ rfl) hbl HRDN.out
   have HRR := Lib.hid hR
   obtain ⟨ao6, c6, bo6, dd6, hf6⟩ := HRD1.out.form
   have d2 := hf6.cells.2.2.1
   have d3 := hf6.cells.2.2.2
   have HLAT := Lib.hid (HRD1.out.out_lat hf6)
   clear hbl hR hf6
   by_cases h0 : 0 < es.length
   ·have q2 : decide (0 < (es.length : Int)) = true := decide_eq_true (by omega)
    have HR2 : Hid (R = .err 5 q) := by show _ = _; rw [HRR.out, if_pos h0]
    have HQE := Lib.hid hqe
    clear hqe
    go_wp2_with fail
    go_ret3
    rw [HR2.out, HQE.out]
    exact ⟨HLOW1.out, rfl⟩
   ·have q2 : decide (0 < (es.length : Int)) = false := decide_eq_false (by omega)
    have HR2 : Hid (R = .ok out) := by show _ = _; rw [HRR.out, if_neg h0]
    have HQE := Lib.hid hqe
    clear hqe
    go_wp2_with fail
    go_ret3
    rw [HR2.out]
    exact ⟨HLOW1.out, _, rfl, HLAT.out⟩
end Go.Proofs.Ytecljchifebljaa
namespace Go.Proofs.Ytecljchifebljaa
open Go.RowKit Go.BigM
def rdOf (s : ByteArray) : Rs := (rd s.data.toList (8 * (2 * (s.data.toList.length - 0) + ([] : List En).length) + Pc.rank .next) .next 0 ⟨0, false, []⟩ []).getD (.err 0 0)
theorem rdOf_is (s : ByteArray) : rd s.data.toList (8 * (2 * (s.data.toList.length - 0) + ([] : List En).length) + Pc.rank .next) .next 0 ⟨0, false, []⟩ [] = some (rdOf s) := by
 obtain ⟨R, hR⟩ := rd_total s.data.toList (8 * (2 * (s.data.toList.length - 0) + ([] : List En).length) + Pc.rank .next) .next 0 ⟨0, false, []⟩ [] (Nat.le_refl _) (Nat.zero_le _) rfl
 unfold rdOf
 rw [hR]; rfl
/-- The datum of a text; of what is refused, or is none, the empty list. -/
def oneOf (s : ByteArray) : Dt := match rdOf s with
 | .ok (d :: _) => d
 | _ => .mk 4 ⟨#[]⟩ [] [] 0
theorem oneOf_size (s : ByteArray) : (oneOf s).size ≤ 2 * s.size + 1 := by
 unfold oneOf
 have h := rdOf_is s
 split
 ·rename_i d r e
  rw [e] at h
  have := rd_size s.data.toList _ _ _ _ _ _ h (Nat.zero_le _) (by simp [wgt, Pc.wgt, Dt.sizes])
  rw [Lib.size_eq]
  simp only [Dt.sizes] at this
  omega
 ·simp [Dt.size, Dt.sizes]
def RetOne (d : Dt) (w : World) (e : Ending) (w' : World) : Prop := ∃ cs, e = .returned (.agg cs) ∧ Dt.At (fun g => w.heap.size ≤ g) w' d cs ∧ Below w.heap.size w w'
set_option maxHeartbeats 8000000 in
set_option maxRecDepth 100000 in
theorem one_any (s : ByteArray) (w : World) (hs : s.size ≤ 8000) : Calls Try.prog 17 #[.string s] w (RetOne (oneOf s) w) := by
 have FR := Lib.hid (fun w => ref_read_any s w hs _ _ (rdOf_is s))
 have HO : Hid (oneOf s = match rdOf s with | .ok (d :: _) => d | _ => .mk 4 ⟨#[]⟩ [] [] 0) := rfl
 have hb0 : Below w.heap.size w (w.alloc (.cells Z5 29)) := (Below.refl _ _).alloc (Nat.le_refl _) _
 have hx := alloc_at w (.cells Z5 29)
 have hxs : (w.alloc (.cells Z5 29)).heap.size = w.heap.size + 1 := by simp
 obtain ⟨X, hX⟩ : ∃ X, X = w.alloc (.cells Z5 29) := ⟨_, rfl⟩
 have HXE : Hid (X = w.alloc (.cells #[.int .i64 0, .string ⟨#[]⟩, .slice none 0 0, .slice none 0 0, .int .i64 0] 29)) := hX
 rw [← hX] at hb0 hx hxs
 have HX := Lib.hid hx
 have HB0 := Lib.hid hb0
 clear hX hb0 hx
 obtain ⟨R, hR⟩ : ∃ R, R = rdOf s := ⟨_, rfl⟩
 rw [← hR] at FR HO
 clear hR
 go_enter Try.func17, Try.ntmps17
 go_upto_region 1 with fail
 rw [← HXE.out]
 go_wp2_with fail
 refine (FR.out _).mono ?_
 rintro e w2 ⟨hb2, hres⟩
 have hs2 := hb2.size
 have HX2 : Hid (w2.heap[w.heap.size]? = some (.cells Z5 29 (0, 0))) := by show _ = _; rw [hb2.block _ (by omega)]; exact HX.out
 have HB2 := Lib.hid (HB0.out.trans (hb2.mono HB0.out.size))
 clear hb2 FR HXE HX
 have z1 : (#[.int .i64 4, .string ⟨#[]⟩, .slice none 0 0, .slice none 0 0, .int .i64 0] : Array Value).all (·.oneCell') = true := by simp [Value.oneCell']
 have HX3 : Hid ((w2.setRow w.heap.size #[.int .i64 4, .string ⟨#[]⟩, .slice none 0 0, .slice none 0 0, .int .i64 0]).heap[w.heap.size]? = some (.cells #[.int .i64 4, .string ⟨#[]⟩, .slice none 0 0, .slice none 0 0, .int .i64 0] 29 (0, 0))) := setRow_heap w2 w.heap.size _ _ 29 (0, 0) HX2.out
 have HB3 : Hid (Below w.heap.size w (w2.setRow w.heap.size #[.int .i64 4, .string ⟨#[]⟩, .slice none 0 0, .slice none 0 0, .int .i64 0])) := below_setRowB HB2.out _ _ (Nat.le_refl _)
 have HNO : Hid (∀ W, Dt.At (fun g => w.heap.size ≤ g) W (.mk 4 ⟨#[]⟩ [] [] 0) #[.int .i64 4, .string ⟨#[]⟩, .slice none 0 0, .slice none 0 0, .int .i64 0]) := fun W => by
  rw [At_mk]; exact ⟨_, _, rfl, .inl ⟨rfl, rfl⟩, .inl ⟨rfl, rfl⟩⟩
 cases R with
 | err c p =>
  have he : e = .returned (.tuple #[.slice none 0 0, .int .i64 (p : Int), .int .i64 c]) := hres
  subst he
  by_cases h0 : c = 0
  ·have q0 : (c != 0) = false := by simp [h0]
   clear h0
   go_wp2_with (refine wpList_store_row rfl 29 _ _ rfl w.heap.size #[.int .i64 4, .string ⟨#[]⟩, .slice none 0 0, .slice none 0 0, .int .i64 0] rfl rfl 29 Z5 HX2.out info40 rfl z1 ?_)
   refine bodyPost_ret (results_cell_row rfl _ _ w.heap.size 29 #[.int .i64 4, .string ⟨#[]⟩, .slice none 0 0, .slice none 0 0, .int .i64 0] (0, 0) _ rfl HX3.out Try.underlying29 rfl info40) rfl ?_
   exact ⟨_, rfl, by rw [HO.out]; exact HNO.out _, HB3.out⟩
  ·have q0 : (c != 0) = true := by simpa [bne] using h0
   clear h0
   go_wp2_with (refine wpList_store_row rfl 29 _ _ rfl w.heap.size #[.int .i64 4, .string ⟨#[]⟩, .slice none 0 0, .slice none 0 0, .int .i64 0] rfl rfl 29 Z5 HX2.out info40 rfl z1 ?_)
   refine bodyPost_ret (results_cell_row rfl _ _ w.heap.size 29 #[.int .i64 4, .string ⟨#[]⟩, .slice none 0 0, .slice none 0 0, .int .i64 0] (0, 0) _ rfl HX3.out Try.underlying29 rfl info40) rfl ?_
   exact ⟨_, rfl, by rw [HO.out]; exact HNO.out _, HB3.out⟩
 | ok ds =>
  obtain ⟨v, rfl, hl⟩ := hres
  cases ds with
  | nil =>
   obtain ⟨ao, c, rfl⟩ := hl.form
   clear hl
   go_wp2_with (refine wpList_store_row rfl 29 _ _ rfl w.heap.size #[.int .i64 4, .string ⟨#[]⟩, .slice none 0 0, .slice none 0 0, .int .i64 0] rfl rfl 29 Z5 HX2.out info40 rfl z1 ?_)
   refine bodyPost_ret (results_cell_row rfl _ _ w.heap.size 29 #[.int .i64 4, .string ⟨#[]⟩, .slice none 0 0, .slice none 0 0, .int .i64 0] (0, 0) _ rfl HX3.out Try.underlying29 rfl info40) rfl ?_
   exact ⟨_, rfl, by rw [HO.out]; exact HNO.out _, HB3.out⟩
  | cons d r =>
   obtain ⟨ao, c, rfl⟩ := hl.form
   obtain ⟨g, o, k5, t5, mv5, lv5, p5, rfl, hS, -, hat, e0, e1, e2, e3, e4, o5, o6⟩ := hl.get 0 (by simp)
   have hg : g < w2.heap.size := World.block_lt_of_cell? w2 _ e0
   simp only [Nat.zero_mul, Nat.add_zero] at e0 e1 e2 e3 e4
   have z5 : (#[.int .i64 k5, .string t5, mv5, lv5, .int .i64 p5] : Array Value).all (·.oneCell') = true := by simp [Value.oneCell'] at o5 o6 ⊢; exact ⟨o5, o6⟩
   have HX5 : Hid ((w2.setRow w.heap.size #[.int .i64 k5, .string t5, mv5, lv5, .int .i64 p5]).heap[w.heap.size]? = some (.cells #[.int .i64 k5, .string t5, mv5, lv5, .int .i64 p5] 29 (0, 0))) := setRow_heap w2 w.heap.size _ _ 29 (0, 0) HX2.out
   have HB5 : Hid (Below w.heap.size w (w2.setRow w.heap.size #[.int .i64 k5, .string t5, mv5, lv5, .int .i64 p5])) := below_setRowB HB2.out _ _ (Nat.le_refl _)
   have HA5 : Hid (Dt.At (fun g => w.heap.size ≤ g) (w2.setRow w.heap.size #[.int .i64 k5, .string t5, mv5, lv5, .int .i64 p5]) d #[.int .i64 k5, .string t5, mv5, lv5, .int .i64 p5]) := by
    refine Dt.At.mono (S := fun g => X.heap.size ≤ g) (fun g h => by have : X.heap.size ≤ g := h; omega) _ _ (Dt.At.keeps (fun x c T fz hx hh _ => ⟨fz, ?_⟩) _ _ hat)
    have : X.heap.size ≤ x := hx
    rw [setRow_other w2 _ x _ (by omega)]; exact hh
   have HL := Lib.hid hg
   have hlen : (d :: r).length = r.length + 1 := rfl
   rw [hlen]
   have hrl : decide (0 < r.length + 1) = true := decide_eq_true (by omega)
   clear hat hS hl hlen hg
   go_wp2_with (refine wpList_store_row rfl 29 _ _ rfl w.heap.size #[.int .i64 k5, .string t5, mv5, lv5, .int .i64 p5] rfl rfl 29 Z5 HX2.out info40 rfl z5 ?_)
   refine bodyPost_ret (results_cell_row rfl _ _ w.heap.size 29 #[.int .i64 k5, .string t5, mv5, lv5, .int .i64 p5] (0, 0) _ rfl HX5.out Try.underlying29 rfl info40) rfl ?_
   exact ⟨_, rfl, by rw [HO.out]; exact HA5.out, HB5.out⟩
end Go.Proofs.Ytecljchifebljaa
namespace Go.Proofs.Ytecljchifebljaa
open Go.RowKit
def nxtDots : List Dt → Bool
 | [] => false
 | d :: _ => d.dots
mutual
/-- The variables of a pattern, with their depths, in order. -/
def Dt.vars (V : Dt → Bool) : Dt → Int → List (Dt × Int)
 | .mk k t ms l p, n => if V (.mk k t ms l p) = true then [(.mk k t ms l p, n)] else varss V l n
def varss (V : Dt → Bool) : List Dt → Int → List (Dt × Int)
 | [], _ => []
 | d :: r, n => d.vars V (if nxtDots r = true then n + 1 else n) ++ varss V r n
end
theorem vars_mk (V : Dt → Bool) (k : Int) (t : ByteArray) (ms : List Int) (l : List Dt) (p : Int) (n : Int) : (Dt.mk k t ms l p).vars V n = if V (.mk k t ms l p) = true then [(.mk k t ms l p, n)] else varss V l n := by rw [Dt.vars]
theorem varss_cons (V : Dt → Bool) (d : Dt) (r : List Dt) (n : Int) : varss V (d :: r) n = d.vars V (if nxtDots r = true then n + 1 else n) ++ varss V r n := by rw [varss]
mutual
theorem vars_len (V : Dt → Bool) : ∀ (d : Dt) (n : Int), (d.vars V n).length ≤ d.size
 | .mk k t ms l p, n => by
  rw [vars_mk]
  have := varss_len V l n
  split
  ·simp only [Dt.size, List.length_singleton]; omega
  ·simp only [Dt.size]; omega
theorem varss_len (V : Dt → Bool) : ∀ (l : List Dt) (n : Int), (varss V l n).length ≤ Dt.sizes l
 | [], n => by simp [varss]
 | d :: r, n => by
  rw [varss_cons, List.length_append]
  have h1 := vars_len V d (if nxtDots r = true then n + 1 else n)
  have h2 := varss_len V r n
  simp only [Dt.sizes]; omega
end
/-- What a call that puts something behind a row that it was given leaves. -/
def Grw (w w' : World) (v v' : Value) : Prop := w.grownBy w' v.ownBlock ∧ (v'.ownBlock = v.ownBlock ∨ ∃ b, v'.ownBlock = some b ∧ w.heap.size ≤ b ∧ b < w'.heap.size)
theorem Grw.of_below {w w' : World} (h : Below w.heap.size w w') (v : Value) : Grw w w' v v := ⟨⟨h.os, h.tape, h.output, h.size, fun k hk _ => h.block k hk⟩, .inl rfl⟩
theorem Grw.trans {a b c : World} {v v' v'' : Value} (h : Grw a b v v') (k : Grw b c v' v'') : Grw a c v v'' := by
 obtain ⟨h1, h2⟩ := h
 obtain ⟨k1, k2⟩ := k
 have s1 := h1.size
 have s2 := k1.size
 refine ⟨⟨k1.os.trans h1.os, k1.tape.trans h1.tape, k1.output.trans h1.output, by omega, fun x hx hn => ?_⟩, ?_⟩
 ·rw [k1.block x (by omega) (fun e => ?_), h1.block x hx hn]
  rcases h2 with h2 | ⟨b, h2, hb, _⟩
  ·exact hn (e.trans h2)
  ·rw [h2] at e; injection e with e; omega
 ·rcases k2 with k2 | ⟨b, k2, hb, hc⟩
  ·rcases h2 with h2 | ⟨b, h2, hb, hc⟩
   ·exact .inl (k2.trans h2)
   ·exact .inr ⟨b, k2.trans h2, hb, by omega⟩
  ·exact .inr ⟨b, k2, by omega, hc⟩
theorem Grw.below {B : Nat} {w w' : World} {v v' : Value} (h : Grw w w' v v') (hB : B ≤ w.heap.size) (hv : ∀ x, v.ownBlock = some x → B ≤ x) : Below B w w' :=
 ⟨h.1.os, h.1.tape, h.1.output, h.1.size, fun k hk => h.1.block k (by omega) (fun e => by have := hv k e.symm; omega)⟩
theorem keeps_low {B : Nat} {w w' : World} (h : Below B w w') : Keeps (fun g => g < B) w w' := fun g c T fz hs hg _ => ⟨fz, by rw [h.block g hs]; exact hg⟩
end Go.Proofs.Ytecljchifebljaa
namespace Go.Proofs.Ytecljchifebljaa
open Go.RowKit
def EInv (ms ns : List Int) (w : World) (iv : Value) (wr : World) : Prop :=
 ∃ j m : Nat, j ≤ ms.length ∧ iv = .int .i64 j ∧ ms.take j = ns.take j ∧ wr = w.drewN m

def FInv (l m : List Dt) (w : World) (iv : Value) (wr : World) : Prop :=
 ∃ j : Nat, j ≤ l.length ∧ iv = .int .i64 j ∧ (∀ i (h1 : i < l.length) (h2 : i < m.length), i < j → Dt.same l[i] m[i] = true) ∧ Below w.heap.size w wr

theorem bcell40 {W W1 : World} (hb : Below W.heap.size W W1) : ∀ b o, b < W.heap.size → W1.cell? ⟨b, o, none⟩ = W.cell? ⟨b, o, none⟩ := fun b o h => hb.cell (p := ⟨b, o, none⟩) h
theorem MAt.form {S : Nat → Prop} {w : World} {mv : Value} {ms : List Int} (h : MAt S w mv ms) : ∃ ao cap, mv = .slice ao ms.length cap := by
 rcases h with ⟨rfl, rfl⟩ | ⟨g, o, cap, arr, fz, rfl, _⟩
 ·exact ⟨none, 0, rfl⟩
 ·exact ⟨_, _, rfl⟩
theorem MAt.get {S : Nat → Prop} {w : World} {ao : Option Addr} {n cap : Nat} {ms : List Int} (h : MAt S w (.slice ao n cap) ms) (j : Nat) (hj : j < ms.length) :
  ∃ g o, ao = some ⟨g, o, none⟩ ∧ w.cell? ⟨g, o + j, none⟩ = some (.int .i64 ms[j]) := by
 rcases h with ⟨_, rfl⟩ | ⟨g, o, cap', arr, fz, e, hS, hg, hd⟩
 ·simp at hj
 ·injection e with e1 e2 e3
  subst e1
  exact ⟨g, o, rfl, by rw [Lib.cell_of_heap hg]; exact hd.1 j hj⟩
theorem take_ext (ms ns : List Int) (j : Nat) (h : ms.take j = ns.take j) (h1 : j < ms.length) (h2 : j < ns.length) (he : ms[j] = ns[j]) : ms.take (j + 1) = ns.take (j + 1) := by
 rw [List.take_succ_eq_append_getElem h1, List.take_succ_eq_append_getElem h2, h, he]
/-- The loop of Equal. -/
theorem same_mk (k k' : Int) (t t' : ByteArray) (ms ms' : List Int) (l l' : List Dt) (p p' : Int) :
  Dt.same (.mk k t ms l p) (.mk k' t' ms' l' p') = ((k == k') && ((t.toList == t'.toList) && ((ms == ms') && Dt.sames l l'))) := by simp [Dt.same]



set_option maxHeartbeats 2000000 in
theorem refmarks_any (S T : Nat → Prop) (mv nv : Value) (ms ns : List Int) (w : World) (h1 : MAt S w mv ms) (h2 : MAt T w nv ns) :
  Calls Try.prog 62 #[mv, nv] w (RetBool (ms == ns) w) := by
 have hl := h1.short
 obtain ⟨ao, cap, rfl⟩ := h1.form
 obtain ⟨bo, cap', rfl⟩ := h2.form
 have H1 := Lib.hid h1
 have H2 := Lib.hid h2
 clear h1 h2
 by_cases hlen : ms.length = ns.length
 ·have q0 : ((ms.length : Int) != (ns.length : Int)) = false := by simp [hlen]
  have HLN := Lib.hid hlen
  clear hlen
  go_enter Try.func62, Try.ntmps62
  go_wp2_with fail
  go_loopw [5] (fun iv wr => EInv ms ns w iv wr) (fun iv _ => ms.length - (intOf iv).toNat)
  case atStart => exact ⟨0, 0, Nat.zero_le _, rfl, rfl, rfl⟩
  case round =>
   obtain ⟨j, m, hj, rfl, ht, rfl⟩ := hrel
   have HT := Lib.hid ht
   clear ht
   by_cases hlt : j < ms.length
   ·have hlt2 : j < ns.length := by have := HLN.out; omega
    obtain ⟨g, o, rfl, e1⟩ := H1.out.get j hlt
    obtain ⟨g2, o2, rfl, e2⟩ := H2.out.get j hlt2
    have hsw : decide ((j : Int) < (ns.length : Int)) = true := decide_eq_true (by omega)
    by_cases he : ms[j] = ns[j]
    ·have HN := Lib.hid (take_ext ms ns j HT.out hlt hlt2 he)
     rw [he] at e1
     have q1 : (ns[j] != ns[j]) = false := by simp
     clear he
     go_wp2_with fail
     go_quiet (fail)
     go_wp2_with fail
     go_roundw
     case rel => exact ⟨j + 1, m + nq, by omega, by go_num, HN.out, rfl⟩
     case measure => simp [intOf]; omega
    ·have q1 : (ms[j] != ns[j]) = true := by rw [bne_iff_ne]; exact he
     have hr : (ms == ns) = false := by rw [beq_eq_false_iff_ne]; intro e; subst e; exact he rfl
     have HR := Lib.hid hr
     clear he hr
     go_wp2_with fail
     go_quiet (fail)
     go_wp2_with fail
     go_ret
     exact ⟨by rw [HR.out]; rfl, (Below.refl _ _).trans ⟨rfl, rfl, rfl, Nat.le_refl _, fun _ _ => rfl⟩⟩
   ·obtain rfl : j = ms.length := by omega
    have hr : (ms == ns) = true := by
     have h := HT.out
     rw [List.take_length, HLN.out, List.take_length] at h
     rw [beq_iff_eq]; exact h
    have HR := Lib.hid hr
    clear hr
    go_wp2_with fail
    go_ret
    exact ⟨by rw [HR.out]; rfl, (Below.refl _ _).trans ⟨rfl, rfl, rfl, Nat.le_refl _, fun _ _ => rfl⟩⟩
 ·have q0 : ((ms.length : Int) != (ns.length : Int)) = true := by rw [bne_iff_ne]; omega
  have hr : (ms == ns) = false := by rw [beq_eq_false_iff_ne]; intro e; subst e; exact hlen rfl
  rw [hr]
  clear hlen hr
  go_enter Try.func62, Try.ntmps62
  go_wp2_with fail
  go_ret
  exact ⟨rfl, Below.refl _ _⟩


theorem second_at (w : World) (a b : Array Value) : ((w.alloc (.cells a 29)).alloc (.cells b 29)).heap[w.heap.size + 1]? = some (.cells b 29 (0, 0)) := by
 have h := alloc_at (w.alloc (.cells a 29)) (.cells b 29)
 have e : (w.alloc (.cells a 29)).heap.size = w.heap.size + 1 := by simp
 rw [e] at h; exact h
def RefOk (n : Nat) : Prop := ∀ (d e : Dt), d.size ≤ n → ∀ (S T : Nat → Prop) (cs ds : Array Value) (w : World), Dt.At S w d cs → Dt.At T w e ds →
  Calls Try.prog 34 #[.agg cs, .agg ds] w (RetBool (d.same e) w)

set_option maxHeartbeats 4000000 in
theorem refsame_any (n : Nat) : n ≤ 1000000000 → RefOk n := by
 induction n with
 | zero => intro _ d e hd; cases d; simp [Dt.size] at hd
 | succ n ih0 =>
  intro hn d e hd S T cs ds w hat hat2
  have IH := Lib.hid (ih0 (by omega))
  obtain ⟨k, t, ms, l, p⟩ := d
  obtain ⟨k', t', ms', l', p'⟩ := e
  rw [At_mk] at hat hat2
  obtain ⟨mv, lv, rfl, hm, hl⟩ := hat
  obtain ⟨mv', lv', rfl, hm', hl'⟩ := hat2
  have hsz : Dt.sizes l ≤ n := by simp only [Dt.size] at hd; omega
  have hll := length_sizes l
  rw [same_mk]
  have o1 := hm.one
  have o2 := hl.one
  have o3 := hm'.one
  have o4 := hl'.one
  have HB := Lib.hid (((Below.refl w.heap.size w).alloc (Nat.le_refl _) (.cells #[.int .i64 k, .string t, mv, lv, .int .i64 p] 29)).alloc (by simp) (.cells #[.int .i64 k', .string t', mv', lv', .int .i64 p'] 29))
  have B0 := Keeps.of_below (S := S) HB.out
  have B1 := Keeps.of_below (S := T) HB.out
  have M1 := Lib.hid (hm.keeps B0)
  have M2 := Lib.hid (hm'.keeps B1)
  have L1 := Lib.hid (hl.keeps B0)
  have L2 := Lib.hid (hl'.keeps B1)
  obtain ⟨ao, cap, rfl⟩ := hl.form
  obtain ⟨bo, cap', rfl⟩ := hl'.form
  clear ih0 hm hl hm' hl' hd B0 B1
  by_cases b1 : k = k'
  ·subst b1
   rw [beq_self_eq_true, Bool.true_and]
   by_cases b2 : (t.toList == t'.toList) = true
   ·have c2 : (t.toList != t'.toList) = false := by rw [bne, b2]; rfl
    have d2 : t.toList = t'.toList := beq_iff_eq.1 b2
    rw [b2, Bool.true_and]
    have HE := fun w m1 m2 => refmarks_any S T mv mv' ms ms' w m1 m2
    by_cases b3 : (ms == ms') = true
    ·rw [b3] at HE ⊢
     rw [Bool.true_and]
     have HE := Lib.hid HE
     clear b3 b2
     by_cases b4 : l.length = l'.length
     ·have c4 : ((l.length : Int) != (l'.length : Int)) = false := by simp [b4]
      have HLN := Lib.hid b4
      clear b4
      go_enter Try.func34, Try.ntmps34
      go_wp2_with fail
      refine (HE.out _ M1.out M2.out).mono ?_
      rintro e w1 ⟨rfl, hb⟩
      have K1 := Lib.hid (HB.out.trans (hb.mono HB.out.size))
      have K2 := Lib.hid (L1.out.keeps (Keeps.of_below hb))
      have K3 := Lib.hid (L2.out.keeps (Keeps.of_below hb))
      have hsw := hb.size
      have ez : ((w.alloc (.cells #[.int .i64 k, .string t, mv, .slice ao l.length cap, .int .i64 p] 29)).alloc (.cells #[.int .i64 k, .string t', mv', .slice bo l'.length cap', .int .i64 p'] 29)).heap.size = w.heap.size + 1 + 1 := by simp
      rw [ez] at hsw
      have cA : w1.cell? ⟨w.heap.size, 3, none⟩ = some (.slice ao l.length cap) := by
       rw [hb.cell (p := ⟨w.heap.size, 3, none⟩) (by show w.heap.size < _; rw [ez]; omega), Lib.cell_of_heap ((Lib.alloc_old _ _ _ (by simp)).trans (alloc_at w _))]; rfl
      have cB : w1.cell? ⟨w.heap.size + 1, 3, none⟩ = some (.slice bo l'.length cap') := by
       rw [hb.cell (p := ⟨w.heap.size + 1, 3, none⟩) (by show w.heap.size + 1 < _; rw [ez]; omega), Lib.cell_of_heap (second_at w _ _)]; rfl
      have CA := Lib.hid cA
      have CB := Lib.hid cB
      clear hb HE M1 M2 L1 L2 HB
      go_wp2_with fail
      clear c2 c4 cA cB
      go_loopw [5] (fun iv wr => FInv l l' w1 iv wr) (fun iv _ => l.length - (intOf iv).toNat)
      case atStart => exact ⟨0, Nat.zero_le _, rfl, fun i _ _ h => absurd h (by omega), Below.refl _ _⟩
      case round =>
       obtain ⟨j, hj, rfl, hsm, hbw⟩ := hrel
       have HM := Lib.hid hsm
       have HBw := Lib.hid hbw
       have hsr := hbw.size
       have cA := (hbw.cell (p := ⟨w.heap.size, 3, none⟩) (by show w.heap.size < _; omega)).trans CA.out
       have cB := (hbw.cell (p := ⟨w.heap.size + 1, 3, none⟩) (by show w.heap.size + 1 < _; omega)).trans CB.out
       clear hsm hbw
       by_cases hlt : j < l.length
       ·have q1 : decide ((j : Int) < (l.length : Int)) = true := decide_eq_true (by omega)
        have hlt2 : j < l'.length := by have := HLN.out; omega
        obtain ⟨g, o, k5, t5, mv5, lv5, p5, rfl, hS, -, hat, e0, e1, e2, e3, e4, o5, o6⟩ := (K2.out.keeps (Keeps.of_below HBw.out)).get j hlt
        obtain ⟨g2, o2', k6, t6, mv6, lv6, p6, rfl, hS2, -, hat2, f0, f1, f2, f3, f4, o7, o8⟩ := (K3.out.keeps (Keeps.of_below HBw.out)).get j hlt2
        have hg : g < wr.heap.size := World.block_lt_of_cell? wr _ e0
        have hg2 : g2 < wr.heap.size := World.block_lt_of_cell? wr _ f0
        have hsj := size_get l j hlt
        have HX' := IH.out l[j] l'[j] (by omega) S T _ _ wr.drew (Dt.At.keeps (Keeps.of_below (Below.refl _ _).drew) _ _ hat) (Dt.At.keeps (Keeps.of_below (Below.refl _ _).drew) _ _ hat2)
        obtain ⟨r, hr⟩ : ∃ r, Dt.same l[j] l'[j] = r := ⟨_, rfl⟩
        rw [hr] at HX'
        have HX := Lib.hid HX'
        have HRR := Lib.hid hr
        have E0 := Lib.hid e0
        have E1 := Lib.hid e1
        have E2 := Lib.hid e2
        have E3 := Lib.hid e3
        have E4 := Lib.hid e4
        have F0 := Lib.hid f0
        have F1 := Lib.hid f1
        have F2 := Lib.hid f2
        have F3 := Lib.hid f3
        have F4 := Lib.hid f4
        clear HX' hr hat hat2 hS hS2 e0 e1 e2 e3 e4 f0 f1 f2 f3 f4 IH
        go_upto_region 6 with fail
        have DA := Lib.hid cA
        have DB := Lib.hid cB
        clear cA cB q1
        refine wp_region_noPanic ?_
        refine wp_region_held_drew (S := Below wr.heap.size wr) (by kernel_rfl) ((Below.refl _ _).drew) (fun hHeld => ?_)
        refine qts [0, 1, 2, 3, 4, 5, 6, 7, 8, 9] hHeld ?_
        (refine qtc (v := Value.pointer (some ⟨w.heap.size, 3, none⟩)) rfl rfl (fun w' hw' => ?_) ?_; (focus (go_simp)); simp only [zt,zs,zz,Act.put,zi,zy,zx])
        (refine qtc (v := Value.slice (some ⟨g, o, none⟩) l.length cap) rfl rfl (fun w' hw' => ?_) ?_; (focus (have c := (hw'.cell (p := ⟨w.heap.size, 3, none⟩) (by show w.heap.size < _; omega)).trans DA.out; go_simp)); simp only [zt,zs,zz,Act.put,zi,zy,zx])
        (refine qtc (v := Value.int .i64 j) rfl rfl (fun w' hw' => ?_) ?_; (focus (go_simp)); simp only [zt,zs,zz,Act.put,zi,zy,zx])
        (refine qtc (v := Value.pointer (some ⟨g, o + j * 5, none⟩)) rfl rfl (fun w' hw' => ?_) ?_; (focus (go_simp)); simp only [zt,zs,zz,Act.put,zi,zy,zx])
        (refine qtc (v := Value.agg #[.int .i64 k5, .string t5, mv5, lv5, .int .i64 p5]) rfl rfl (fun w' hw' => ?_) ?_; (focus (have qE0 := (hw'.cell (p := ⟨g, o + j * 5, none⟩) (by show g < wr.heap.size; omega)).trans E0.out; have qE1 := (hw'.cell (p := ⟨g, o + j * 5 + 1, none⟩) (by show g < wr.heap.size; omega)).trans E1.out; have qE2 := (hw'.cell (p := ⟨g, o + j * 5 + 2, none⟩) (by show g < wr.heap.size; omega)).trans E2.out; have qE3 := (hw'.cell (p := ⟨g, o + j * 5 + 3, none⟩) (by show g < wr.heap.size; omega)).trans E3.out; have qE4 := (hw'.cell (p := ⟨g, o + j * 5 + 4, none⟩) (by show g < wr.heap.size; omega)).trans E4.out; go_simp)); simp only [zt,zs,zz,Act.put,zi,zy,zx])
        (refine qtc (v := Value.pointer (some ⟨w.heap.size + 1, 3, none⟩)) rfl rfl (fun w' hw' => ?_) ?_; (focus (go_simp)); simp only [zt,zs,zz,Act.put,zi,zy,zx])
        (refine qtc (v := Value.slice (some ⟨g2, o2', none⟩) l'.length cap') rfl rfl (fun w' hw' => ?_) ?_; (focus (have c := (hw'.cell (p := ⟨w.heap.size + 1, 3, none⟩) (by show w.heap.size + 1 < _; omega)).trans DB.out; go_simp)); simp only [zt,zs,zz,Act.put,zi,zy,zx])
        (refine qtc (v := Value.int .i64 j) rfl rfl (fun w' hw' => ?_) ?_; (focus (go_simp)); simp only [zt,zs,zz,Act.put,zi,zy,zx])
        (refine qtc (v := Value.pointer (some ⟨g2, o2' + j * 5, none⟩)) rfl rfl (fun w' hw' => ?_) ?_; (focus (go_simp)); simp only [zt,zs,zz,Act.put,zi,zy,zx])
        (refine qtc (v := Value.agg #[.int .i64 k6, .string t6, mv6, lv6, .int .i64 p6]) rfl rfl (fun w' hw' => ?_) ?_; (focus (have qF0 := (hw'.cell (p := ⟨g2, o2' + j * 5, none⟩) (by show g2 < wr.heap.size; omega)).trans F0.out; have qF1 := (hw'.cell (p := ⟨g2, o2' + j * 5 + 1, none⟩) (by show g2 < wr.heap.size; omega)).trans F1.out; have qF2 := (hw'.cell (p := ⟨g2, o2' + j * 5 + 2, none⟩) (by show g2 < wr.heap.size; omega)).trans F2.out; have qF3 := (hw'.cell (p := ⟨g2, o2' + j * 5 + 3, none⟩) (by show g2 < wr.heap.size; omega)).trans F3.out; have qF4 := (hw'.cell (p := ⟨g2, o2' + j * 5 + 4, none⟩) (by show g2 < wr.heap.size; omega)).trans F4.out; go_simp)); simp only [zt,zs,zz,Act.put,zi,zy,zx])
        refine qtn ?_
        simp only [zt,zs,zz,Act.put,zi,zy,zx,qzl,qzn,qza,Nat.reduceAdd,Nat.reduceSub]
        refine wpAnyH_ready (rs := [10]) (by kernel_rfl) (by simp) ?_
        refine (AllReadyH.cons rfl (fun K hK => ?_) AllReadyH.nil)
        go_simp
        refine HX.out.mono ?_
        rintro e w7 ⟨rfl, hb⟩
        have hS7 : Below wr.heap.size wr w7 := (Below.refl wr.heap.size wr).drew.trans hb
        have HS7 := Lib.hid hS7
        refine hK.out _ _ hS7 (fun hHeld => ?_)
        clear hK K hb hS7
        try simp only [zt,zs,zz,Act.put,zi,zy,zx]
        refine qtk (i := 11) (v := Value.bool (!r)) rfl rfl (fun w' hw' => ?_) hHeld ?_
        ·go_simp
        simp only [zt,zs,zz,Act.put,zi,zy,zx]
        refine wpAnyH_done (by kernel_rfl) ?_ _
        refine NoPanic.normal ?_
        clear hHeld
        have HN := Lib.hid (HBw.out.trans (HS7.out.mono HBw.out.size))
        cases r with
        | false =>
         have HF : Hid (Dt.sames l l' = false) := sames_get l l' j hlt hlt2 HRR.out
         go_wp2
         go_ret
         exact ⟨by rw [HF.out]; rfl, K1.out.trans (HN.out.mono K1.out.size)⟩
        | true =>
         have HQ : Hid (FInv l l' w1 (.int .i64 ((j : Int) + 1)) w7) := ⟨j + 1, by omega, by go_num, fun i h1 h2 h3 => by
          by_cases hij : i = j
          ·subst hij; exact HRR.out
          ·exact HM.out i h1 h2 (by omega), HN.out⟩
         go_wp2_with fail
         go_roundw
         case rel => exact HQ.out
         case measure => simp [intOf]; omega
       ·obtain rfl : j = l.length := by omega
        have q1 : decide ((l.length : Int) < (l.length : Int)) = false := decide_eq_false (by omega)
        have HF : Hid (Dt.sames l l' = true) := sames_all l l' HLN.out (fun i h1 h2 => HM.out i h1 h2 h1)
        go_wp2_with fail
        go_ret
        exact ⟨by rw [HF.out]; rfl, K1.out.trans (HBw.out.mono K1.out.size)⟩
     ·have c4 : ((l.length : Int) != (l'.length : Int)) = true := by rw [bne_iff_ne]; omega
      rw [sames_len l l' b4]
      clear b4
      go_enter Try.func34, Try.ntmps34
      go_wp2_with fail
      refine (HE.out _ M1.out M2.out).mono ?_
      rintro e w1 ⟨rfl, hb⟩
      have K1 := Lib.hid (HB.out.trans (hb.mono HB.out.size))
      have hc := bcell40 hb
      clear hb
      go_wp2
      go_ret
      exact ⟨rfl, K1.out⟩
    ·have b3' : (ms == ms') = false := by simpa using b3
     rw [b3'] at HE ⊢
     have HE := Lib.hid HE
     clear b3 b3' b2
     go_enter Try.func34, Try.ntmps34
     go_wp2_with fail
     refine (HE.out _ M1.out M2.out).mono ?_
     rintro e w1 ⟨rfl, hb⟩
     have K1 := Lib.hid (HB.out.trans (hb.mono HB.out.size))
     have hc := bcell40 hb
     clear hb
     go_wp2
     go_ret
     exact ⟨rfl, K1.out⟩
   ·have b2' : (t.toList == t'.toList) = false := by simpa using b2
    have c2 : (t.toList != t'.toList) = true := by rw [bne, b2']; rfl
    have d2 : ¬ t.toList = t'.toList := by rw [← beq_iff_eq, b2']; decide
    rw [b2']
    clear b2 b2'
    go_enter Try.func34, Try.ntmps34
    go_wp2
    go_ret
    exact ⟨rfl, HB.out⟩
  ·have b1' : (k == k') = false := by simpa using b1
   have c1 : (k != k') = true := by rw [bne, b1']; rfl
   rw [b1']
   clear b1 b1'
   go_enter Try.func34, Try.ntmps34
   go_wp2
   go_ret
   exact ⟨rfl, HB.out⟩
end Go.Proofs.Ytecljchifebljaa
namespace Go.Proofs.Ytecljchifebljaa
open Go.RowKit
theorem infoI : (Try.prog.info? 3).map (fun i => (i.zero, i.size, i.bytes)) = some (some (.int .i64 0), 1, 8) := by kernel_rfl
/-- A row of numbers that the call owns. -/
def Nums (B : Nat) (w : World) (v : Value) (ms : List Int) : Prop := w.ownsRow B 3 1 v ms.length (ms.map (Value.int .i64))
theorem Nums.at {B : Nat} {w : World} {v : Value} {ms : List Int} (h : Nums B w v ms) (hm : ms.length ≤ 1000000000) : MAt (fun g => B ≤ g) w v ms := by
 rcases h.2 with ⟨rfl, hz⟩ | ⟨g, cap, cur, rfl, hbg, hg, hnc, hcm, hcs, htake⟩
 ·exact .inl ⟨rfl, List.length_eq_zero_iff.1 hz⟩
 ·refine .inr ⟨g, 0, cap, cur, (0, 0), rfl, hbg, hg, fun j hj => ?_, hm⟩
  have h1 : (cur.toList.take (ms.length * 1))[j]? = some (.int .i64 ms[j]) := by rw [htake, List.getElem?_map, List.getElem?_eq_getElem hj]; rfl
  rw [List.getElem?_take, if_pos (by omega)] at h1
  simpa using h1
theorem MAt.ne {S : Nat → Prop} {w : World} {v : Value} {ms : List Int} {ob : Nat} {c : Array Value} {fz : Nat × Nat} (h : MAt S w v ms) (ho : w.heap[ob]? = some (.cells c 29 fz)) : MAt (fun x => S x ∧ x ≠ ob) w v ms := by
 rcases h with h | ⟨g, o, cap, arr, fz', h1, h2, h3, h4⟩
 ·exact .inl h
 ·refine .inr ⟨g, o, cap, arr, fz', h1, ⟨h2, ?_⟩, h3, h4⟩
  rintro rfl
  rw [ho] at h3
  injection h3 with h3
  injection h3 with _ h3 _
  exact absurd h3 (by decide)
end Go.Proofs.Ytecljchifebljaa
namespace Go.Proofs.Ytecljchifebljaa
open Go.RowKit
inductive Bd where
 | mk (n : Dt) (q : Int) (d : Dt) (l : List Bd) : Bd
namespace Bd
def name : Bd → Dt | mk n _ _ _ => n
def deep : Bd → Int | mk _ q _ _ => q
def dat : Bd → Dt | mk _ _ d _ => d
def rows : Bd → List Bd | mk _ _ _ l => l
mutual
def size : Bd → Nat | mk n _ d l => n.size + d.size + sizes l + 1
def sizes : List Bd → Nat
 | [] => 0
 | b :: r => b.size + sizes r
end
end Bd
/-- A datum's five cells, by its own words. -/
def Dt.five (d : Dt) (mv lv : Value) : List Value := [.int .i64 d.kind, .string d.text, mv, lv, .int .i64 d.place]
/-- All rows stand. -/
def KeepsB (S : Nat → Prop) (w w' : World) : Prop := ∀ g c T fz, S g → w.heap[g]? = some (.cells c T fz) → ∃ fz', w'.heap[g]? = some (.cells c T fz')
theorem KeepsB.keeps {S : Nat → Prop} {w w' : World} (h : KeepsB S w w') : Keeps S w w' := fun g c T fz hs hg _ => h g c T fz hs hg
theorem KeepsB.of_below {S : Nat → Prop} {w w' : World} (h : Below w.heap.size w w') : KeepsB S w w' := fun g c T fz _ hg => ⟨fz, by rw [h.block g (Array.getElem?_eq_some_iff.1 hg).1]; exact hg⟩
theorem KeepsB.of_grown {S : Nat → Prop} {w w' : World} {row : Option Nat} (h : w.grownBy w' row) (hS : ∀ g, S g → some g ≠ row) : KeepsB S w w' := fun g c T fz hs hg => ⟨fz, by rw [h.block g (Array.getElem?_eq_some_iff.1 hg).1 (hS g hs)]; exact hg⟩
theorem keepsB_low {B : Nat} {w w' : World} (h : Below B w w') : KeepsB (fun g => g < B) w w' := fun g c T fz hs hg => ⟨fz, by rw [h.block g hs]; exact hg⟩
end Go.Proofs.Ytecljchifebljaa
