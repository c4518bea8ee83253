/- The document's reader: next: a bracket, a quote. -/
import Derived.Test.YtecljchifebljaaYAA
import Derived.Test.YtecljchifebljaaYAC
import Derived.Test.YtecljchifebljaaYAH
set_option linter.unusedVariables false
set_option linter.unusedSimpArgs false
namespace Go.Proofs.Ytecljchifebljaa
open Go.RowKit Go.BigM
set_option maxHeartbeats 16000000 in
set_option maxRecDepth 100000 in
theorem next_open40 {D : Nat → Prop} (g : Nat) (s : ByteArray) (p : Nat) (es : List En) (out : List Dt) (b : UInt8) (w : World) (h : RdAt D w.heap.size w g s p es out) (hgN : g < w.heap.size) (hp : p < s.size) (hb : s[p] = b) (hs : s.size ≤ 8000) (hB : Bnd es out p) (hbv : b = 40) :
  Calls Try.prog 64 #[.pointer (some ⟨g, 0, none⟩)] w (RetNx g s p b es out w) := by
 obtain ⟨ao, c, bo, dd, hf⟩ := h.form
 obtain ⟨dv, hdv⟩ : ∃ v, v = Value.slice bo out.length dd := ⟨_, rfl⟩
 rw [← hdv] at hf
 have HS := Lib.hid (Stt.start h)
 have HR := Lib.hid hf
 have HB := Lib.hid hB
 have HBB := Lib.hid hb
 have hel : es.length ≤ 60 := hB.2.2
 clear h hB hdv hf hb
 have HBV := Lib.hid hbv
 have hbn : b.toNat = 40 := by rw [hbv]; rfl
 have E40 : ((b.toNat : Int) == 40) = true := by simpa using (show (b.toNat : Int) = 40 by omega)
 have E39 : ((b.toNat : Int) == 39) = false := by simpa using (show ¬ (b.toNat : Int) = 39 by omega)
 clear hbv hbn
 go_enter Try.func64, Try.ntmps64
 go_upto_region 1 with fail
 have HC : Hid (∀ w', Below w.heap.size w w' → w'.cell? ⟨g, 0, none⟩ = some (.string s) ∧ w'.cell? ⟨g, 1, none⟩ = some (.int .i64 (p : Int)) ∧ w'.cell? ⟨g, 2, none⟩ = some (.slice ao es.length c) ∧ w'.cell? ⟨g, 3, none⟩ = some dv) := fun w' hw' => by
  have h9 : w'.heap[g]? = some (.cells #[.string s, .int .i64 (p : Int), .slice ao es.length c, dv] 114 (0, 0)) := by rw [hw'.block g HR.out.lt]; exact HR.out
  exact Rs3.cells (p := p) h9
 have HS0 : Hid (Below w.heap.size w w.drew) := (Below.refl _ _).drew
 replace HS : Hid (Stt D g s p es out w w.drew) := HS.out.drew HR.out.lt
 replace HR : Hid (Rs3 w.drew g s p (.slice ao es.length c) dv) := HR.out
 refine wp_region_noPanic ?_
 refine wp_region_held_drew (S := Below w.heap.size w) (by kernel_rfl) HS0.out (fun hHeld => ?_)
 generalize w.drew = X1 at HS0 HS HR hHeld ⊢
 refine qts [0, 1, 2, 3, 4, 5, 6, 7, 8, 9] hHeld ?_
 iterate 8 (refine qtc (v := ?_) rfl rfl (fun w' hw' => ?_) ?_; rotate_left; (focus ((obtain ⟨d0, d1, d2, d3⟩ := HC.out w' hw'; go_simp); try with_reducible rfl)); simp only [zt,zs,zz,Act.put,zi,zy,zx])
 (refine qtc (v := Value.int .u8 ((s[p]'hp).toNat : Int)) rfl rfl (fun w' hw' => ?_) ?_; (focus (go_simp)); simp only [zt,zs,zz,Act.put,zi,zy,zx])
 (refine qtc (v := ?_) rfl rfl (fun w' hw' => ?_) ?_; rotate_left; (focus ((obtain ⟨d0, d1, d2, d3⟩ := HC.out w' hw'; go_simp); try with_reducible rfl)); simp only [zt,zs,zz,Act.put,zi,zy,zx])
 refine qtn ?_
 simp only [zt,zs,zz,Act.put,zi,zy,zx,qzl,qzn,qza,Nat.reduceAdd,Nat.reduceSub]
 refine wpAnyH_done (by kernel_rfl) ?_ _
 refine NoPanic.normal ?_
 clear hHeld
 clear HC HS0
 rw [HBB.out]
 by_cases h60 : es.length = 60
 ·have HN : Hid (nxt s p b es out = (6, p, es, out)) := by
   show _ = _
   unfold nxt
   rw [HBV.out, if_pos (by decide), if_pos h60]
  have d2 := HR.out.cells.2.2.1
  rw [h60] at d2
  go_wp2_with fail
  go_ret
  have hn := HN.out
  unfold RetNx
  rw [hn]
  exact ⟨rfl, HS.out.low, HS.out.size, fun h => absurd h (by simp), fun _ => ⟨_, _, HR.out⟩⟩
 ·have HN : Hid (nxt s p b es out = (0, p + 1, (⟨p, false, []⟩ : En) :: es, out)) := by
   show _ = _
   unfold nxt
   rw [HBV.out, if_pos (by decide), if_neg h60]
   rfl
  have q60 : decide (60 ≤ (es.length : Int)) = false := decide_eq_false (by omega)
  have d2 := HR.out.cells.2.2.1
  go_upto_region 6 with fail
  clear d2
  have HXS : Hid (g < X1.heap.size) := HR.out.lt
  have hst := push_step (HS.out.drew HR.out.lt) HXS.out (⟨p, false, []⟩ : En) rfl
  obtain ⟨ao2, c2, xs, c1, cl0, cl1, cl2, hown, hB8, HNX⟩ := hst
  obtain ⟨on, hon⟩ : ∃ on, on = es.length := ⟨_, rfl⟩
  simp only [← hon] at cl0 cl1 hown HNX hel
  have HC1 := Lib.hid cl0
  have HC2 := Lib.hid cl1
  have HP2 := Lib.hid cl2
  have HO := Lib.hid hown
  have HNX := Lib.hid HNX
  have HC9 := Lib.hid c1
  clear cl0 cl1 cl2 hown hon HS HR c1
  refine wp_region_noPanic ?_
  refine wp_region_held_drew (S := fun w' => w'.cell? ⟨g, 1, none⟩ = some (.int .i64 (p : Int))) (by kernel_rfl) HC9.out (fun hHeld => ?_)
  generalize X1.drew = X2 at HC1 HC2 HP2 HO HNX HC9 hB8 hHeld ⊢
  refine qts [0, 1, 2, 3, 5, 6, 7, 8, 9, 10, 11] hHeld ?_
  iterate 9 (refine qtc (v := ?_) rfl rfl (fun w' hw' => ?_) ?_; rotate_left; (focus (go_simp; try with_reducible rfl)); simp only [zt,zs,zz,Act.put,zi,zy,zx])
  (refine qtc (v := ?_) rfl rfl (fun w' hw' => ?_) ?_; rotate_left; (focus ((have q := hw'; go_simp); try with_reducible rfl)); simp only [zt,zs,zz,Act.put,zi,zy,zx])
  (refine qtc (v := ?_) rfl rfl (fun w' hw' => ?_) ?_; rotate_left; (focus (go_simp; try with_reducible rfl)); simp only [zt,zs,zz,Act.put,zi,zy,zx])
  refine qtn ?_
  simp only [zt,zs,zz,Act.put,zi,zy,zx,qzl,qzn,qza,Nat.reduceAdd,Nat.reduceSub]
  refine wpAnyH_ready (rs := [4, 12]) (by kernel_rfl) (by simp) ?_
  refine (AllReadyH.cons rfl (fun K hK => ?_) (AllReadyH.cons rfl (fun K hK => ?_) AllReadyH.nil))
  ·skip
   have cl := HC1.out
   go_simp
   refine hK.out _ _ hHeld (fun hHeld => ?_)
   clear cl
   clear hK K
   try simp only [zt,zs,zz,Act.put,zi,zy,zx]
   refine wpAnyH_ready (rs := [12]) (by kernel_rfl) (by simp) ?_
   refine (AllReadyH.cons rfl (fun K hK => ?_) AllReadyH.nil)
   go_simp
   refine hK.out _ _ HP2.out (fun hHeld => ?_)
   clear hK K
   try simp only [zt,zs,zz,Act.put,zi,zy,zx]
   refine wpAnyH_ready (rs := [13]) (by kernel_rfl) (by simp) ?_
   refine (AllReadyH.cons rfl (fun K hK => ?_) AllReadyH.nil)
   rw [if_pos (by rfl)]
   refine wp_app3 (Operand.tmp 31) (Operand.tmp 39) rfl (g + 1) (.slice ao2 on c2) on xs rfl HO.out X2.heap.size 1 rfl [.bool false, .int .i64 (p : Int), .slice none 0 0] rfl (fun i u hu => ?_) (by simp [Value.oneCell']) (by omega) hB8 ?_
   ·have q : (X2.alloc (.cells #[.bool false, .int .i64 (p : Int), .slice none 0 0] 137)).cell? ⟨X2.heap.size, i, none⟩ = some u := by rw [Lib.cell_of_heap (alloc_at X2 (.cells #[.bool false, .int .i64 (p : Int), .slice none 0 0] 137))]; simpa using hu
    exact q
   intro v' w9 hown9 hg9 hv9
   obtain ⟨y1, y2, y3, y4, hfin⟩ := HNX.out v' w9 hown9 hg9 hv9
   obtain ⟨vo, vc, rfl⟩ := row_form hown9 (by decide)
   have HY2 := Lib.hid y2
   have HY3 := Lib.hid y3
   have HY4 := Lib.hid y4
   have HFIN := Lib.hid hfin
   clear hown9 hg9 hv9 hfin y2 y3 y4
   refine hK.out _ _ y1 (fun hHeld => ?_)
   clear y1
   clear hK K
   try simp only [zt,zs,zz,Act.put,zi,zy,zx]
   refine qtk (i := 14) (v := ?v21) rfl rfl (fun w' hw' => ?h21) hHeld ?r21
   case h21 => go_simp; try with_reducible rfl
   simp only [zt,zs,zz,Act.put,zi,zy,zx]
   refine qtk (i := 15) (v := ?v22) rfl rfl (fun w' hw' => ?h22) hHeld ?r22
   case h22 => go_simp; try with_reducible rfl
   simp only [zt,zs,zz,Act.put,zi,zy,zx]
   refine wpAnyH_ready (rs := [16]) (by kernel_rfl) (by simp) ?_
   refine (AllReadyH.cons rfl (fun K hK => ?_) AllReadyH.nil)
   have cl := HY2.out
   have cf := HY3.out
   go_simp
   refine hK.out _ _ HY4.out (fun hHeld => ?_)
   clear cl cf
   clear hK K
   try simp only [zt,zs,zz,Act.put,zi,zy,zx]
   refine wpAnyH_done (by kernel_rfl) ?_ _
   refine NoPanic.normal ?_
   clear hHeld
   generalize w9.setCell ⟨g, 2, none⟩ (.slice vo (on + 1) vc) = X3 at HFIN HY4 ⊢
   obtain ⟨ao3, c3, bo3, dd3, hf3⟩ := HFIN.out.rd.form
   have d1 := hf3.cells.2.1
   have fz := hf3.frozen 1
   have e9 := wrap_succ p (by omega)
   have HRD := Lib.hid (HFIN.out.rd.setP (p + 1))
   have HL1 : Hid (Below g w (X3.setCell ⟨g, 1, none⟩ (.int .i64 ((p + 1 : Nat) : Int)))) := HFIN.out.low.setCell (p := ⟨g, 1, none⟩) (Nat.le_refl _) _
   have hz : (X3.setCell ⟨g, 1, none⟩ (.int .i64 ((p + 1 : Nat) : Int))).heap.size = X3.heap.size := by simp [World.setCell]
   have HZ1 := Lib.hid hz
   have HZ2 := Lib.hid HFIN.out.size
   clear hf3 hz HFIN
   go_wp2_with fail
   go_ret
   have hn := HN.out
   unfold RetNx
   rw [hn]
   exact ⟨rfl, HL1.out, by have h1 := HZ1.out; have h2 := HZ2.out; push_cast at h1; rw [h1]; exact h2, fun _ => ⟨D, by have h1 := HZ1.out; have h2 := HRD.out; push_cast at h1 h2 ⊢; rw [h1]; exact h2⟩, fun h => absurd rfl h⟩
  ·skip
   go_simp
   refine hK.out _ _ HP2.out (fun hHeld => ?_)
   clear hK K
   try simp only [zt,zs,zz,Act.put,zi,zy,zx]
   refine wpAnyH_ready (rs := [4]) (by kernel_rfl) (by simp) ?_
   refine (AllReadyH.cons rfl (fun K hK => ?_) AllReadyH.nil)
   have cl := HC2.out
   go_simp
   refine hK.out _ _ hHeld (fun hHeld => ?_)
   clear cl
   clear hK K
   try simp only [zt,zs,zz,Act.put,zi,zy,zx]
   refine wpAnyH_ready (rs := [13]) (by kernel_rfl) (by simp) ?_
   refine (AllReadyH.cons rfl (fun K hK => ?_) AllReadyH.nil)
   rw [if_pos (by rfl)]
   refine wp_app3 (Operand.tmp 31) (Operand.tmp 39) rfl (g + 1) (.slice ao2 on c2) on xs rfl HO.out X2.heap.size 1 rfl [.bool false, .int .i64 (p : Int), .slice none 0 0] rfl (fun i u hu => ?_) (by simp [Value.oneCell']) (by omega) hB8 ?_
   ·have q : (X2.alloc (.cells #[.bool false, .int .i64 (p : Int), .slice none 0 0] 137)).cell? ⟨X2.heap.size, i, none⟩ = some u := by rw [Lib.cell_of_heap (alloc_at X2 (.cells #[.bool false, .int .i64 (p : Int), .slice none 0 0] 137))]; simpa using hu
    exact q
   intro v' w9 hown9 hg9 hv9
   obtain ⟨y1, y2, y3, y4, hfin⟩ := HNX.out v' w9 hown9 hg9 hv9
   obtain ⟨vo, vc, rfl⟩ := row_form hown9 (by decide)
   have HY2 := Lib.hid y2
   have HY3 := Lib.hid y3
   have HY4 := Lib.hid y4
   have HFIN := Lib.hid hfin
   clear hown9 hg9 hv9 hfin y2 y3 y4
   refine hK.out _ _ y1 (fun hHeld => ?_)
   clear y1
   clear hK K
   try simp only [zt,zs,zz,Act.put,zi,zy,zx]
   refine qtk (i := 14) (v := ?v23) rfl rfl (fun w' hw' => ?h23) hHeld ?r23
   case h23 => go_simp; try with_reducible rfl
   simp only [zt,zs,zz,Act.put,zi,zy,zx]
   refine qtk (i := 15) (v := ?v24) rfl rfl (fun w' hw' => ?h24) hHeld ?r24
   case h24 => go_simp; try with_reducible rfl
   simp only [zt,zs,zz,Act.put,zi,zy,zx]
   refine wpAnyH_ready (rs := [16]) (by kernel_rfl) (by simp) ?_
   refine (AllReadyH.cons rfl (fun K hK => ?_) AllReadyH.nil)
   have cl := HY2.out
   have cf := HY3.out
   go_simp
   refine hK.out _ _ HY4.out (fun hHeld => ?_)
   clear cl cf
   clear hK K
   try simp only [zt,zs,zz,Act.put,zi,zy,zx]
   refine wpAnyH_done (by kernel_rfl) ?_ _
   refine NoPanic.normal ?_
   clear hHeld
   generalize w9.setCell ⟨g, 2, none⟩ (.slice vo (on + 1) vc) = X3 at HFIN HY4 ⊢
   obtain ⟨ao3, c3, bo3, dd3, hf3⟩ := HFIN.out.rd.form
   have d1 := hf3.cells.2.1
   have fz := hf3.frozen 1
   have e9 := wrap_succ p (by omega)
   have HRD := Lib.hid (HFIN.out.rd.setP (p + 1))
   have HL1 : Hid (Below g w (X3.setCell ⟨g, 1, none⟩ (.int .i64 ((p + 1 : Nat) : Int)))) := HFIN.out.low.setCell (p := ⟨g, 1, none⟩) (Nat.le_refl _) _
   have hz : (X3.setCell ⟨g, 1, none⟩ (.int .i64 ((p + 1 : Nat) : Int))).heap.size = X3.heap.size := by simp [World.setCell]
   have HZ1 := Lib.hid hz
   have HZ2 := Lib.hid HFIN.out.size
   clear hf3 hz HFIN
   go_wp2_with fail
   go_ret
   have hn := HN.out
   unfold RetNx
   rw [hn]
   exact ⟨rfl, HL1.out, by have h1 := HZ1.out; have h2 := HZ2.out; push_cast at h1; rw [h1]; exact h2, fun _ => ⟨D, by have h1 := HZ1.out; have h2 := HRD.out; push_cast at h1 h2 ⊢; rw [h1]; exact h2⟩, fun h => absurd rfl h⟩
set_option maxHeartbeats 16000000 in
set_option maxRecDepth 100000 in
theorem next_open39 {D : Nat → Prop} (g : Nat) (s : ByteArray) (p : Nat) (es : List En) (out : List Dt) (b : UInt8) (w : World) (h : RdAt D w.heap.size w g s p es out) (hgN : g < w.heap.size) (hp : p < s.size) (hb : s[p] = b) (hs : s.size ≤ 8000) (hB : Bnd es out p) (hbv : b = 39) :
  Calls Try.prog 64 #[.pointer (some ⟨g, 0, none⟩)] w (RetNx g s p b es out w) := by
 obtain ⟨ao, c, bo, dd, hf⟩ := h.form
 obtain ⟨dv, hdv⟩ : ∃ v, v = Value.slice bo out.length dd := ⟨_, rfl⟩
 rw [← hdv] at hf
 have HS := Lib.hid (Stt.start h)
 have HR := Lib.hid hf
 have HB := Lib.hid hB
 have HBB := Lib.hid hb
 have hel : es.length ≤ 60 := hB.2.2
 clear h hB hdv hf hb
 have HBV := Lib.hid hbv
 have hbn : b.toNat = 39 := by rw [hbv]; rfl
 have E40 : ((b.toNat : Int) == 40) = false := by simpa using (show ¬ (b.toNat : Int) = 40 by omega)
 have E39 : ((b.toNat : Int) == 39) = true := by simpa using (show (b.toNat : Int) = 39 by omega)
 clear hbv hbn
 go_enter Try.func64, Try.ntmps64
 go_upto_region 1 with fail
 have HC : Hid (∀ w', Below w.heap.size w w' → w'.cell? ⟨g, 0, none⟩ = some (.string s) ∧ w'.cell? ⟨g, 1, none⟩ = some (.int .i64 (p : Int)) ∧ w'.cell? ⟨g, 2, none⟩ = some (.slice ao es.length c) ∧ w'.cell? ⟨g, 3, none⟩ = some dv) := fun w' hw' => by
  have h9 : w'.heap[g]? = some (.cells #[.string s, .int .i64 (p : Int), .slice ao es.length c, dv] 114 (0, 0)) := by rw [hw'.block g HR.out.lt]; exact HR.out
  exact Rs3.cells (p := p) h9
 have HS0 : Hid (Below w.heap.size w w.drew) := (Below.refl _ _).drew
 replace HS : Hid (Stt D g s p es out w w.drew) := HS.out.drew HR.out.lt
 replace HR : Hid (Rs3 w.drew g s p (.slice ao es.length c) dv) := HR.out
 refine wp_region_noPanic ?_
 refine wp_region_held_drew (S := Below w.heap.size w) (by kernel_rfl) HS0.out (fun hHeld => ?_)
 generalize w.drew = X1 at HS0 HS HR hHeld ⊢
 refine qts [0, 1, 2, 3, 4, 5, 6, 7, 8, 9] hHeld ?_
 iterate 8 (refine qtc (v := ?_) rfl rfl (fun w' hw' => ?_) ?_; rotate_left; (focus ((obtain ⟨d0, d1, d2, d3⟩ := HC.out w' hw'; go_simp); try with_reducible rfl)); simp only [zt,zs,zz,Act.put,zi,zy,zx])
 (refine qtc (v := Value.int .u8 ((s[p]'hp).toNat : Int)) rfl rfl (fun w' hw' => ?_) ?_; (focus (go_simp)); simp only [zt,zs,zz,Act.put,zi,zy,zx])
 (refine qtc (v := ?_) rfl rfl (fun w' hw' => ?_) ?_; rotate_left; (focus ((obtain ⟨d0, d1, d2, d3⟩ := HC.out w' hw'; go_simp); try with_reducible rfl)); simp only [zt,zs,zz,Act.put,zi,zy,zx])
 refine qtn ?_
 simp only [zt,zs,zz,Act.put,zi,zy,zx,qzl,qzn,qza,Nat.reduceAdd,Nat.reduceSub]
 refine wpAnyH_done (by kernel_rfl) ?_ _
 refine NoPanic.normal ?_
 clear hHeld
 clear HC HS0
 rw [HBB.out]
 by_cases h60 : es.length = 60
 ·have HN : Hid (nxt s p b es out = (6, p, es, out)) := by
   show _ = _
   unfold nxt
   rw [HBV.out, if_pos (by decide), if_pos h60]
  have d2 := HR.out.cells.2.2.1
  rw [h60] at d2
  go_wp2_with fail
  go_ret
  have hn := HN.out
  unfold RetNx
  rw [hn]
  exact ⟨rfl, HS.out.low, HS.out.size, fun h => absurd h (by simp), fun _ => ⟨_, _, HR.out⟩⟩
 ·have HN : Hid (nxt s p b es out = (0, p + 1, (⟨p, true, [.mk 3 qT [] [] p]⟩ : En) :: es, out)) := by
   show _ = _
   unfold nxt
   rw [HBV.out, if_pos (by decide), if_neg h60]
   rfl
  have q60 : decide (60 ≤ (es.length : Int)) = false := decide_eq_false (by omega)
  have d2 := HR.out.cells.2.2.1
  go_upto_region 6 with fail
  clear d2
  have HXS : Hid (g < X1.heap.size) := HR.out.lt
  have hst := push_step (HS.out.drew HR.out.lt) HXS.out (⟨p, true, [.mk 3 qT [] [] p]⟩ : En) rfl
  obtain ⟨ao2, c2, xs, c1, cl0, cl1, cl2, hown, hB8, HNX⟩ := hst
  obtain ⟨on, hon⟩ : ∃ on, on = es.length := ⟨_, rfl⟩
  simp only [← hon] at cl0 cl1 hown HNX hel
  have HC1 := Lib.hid cl0
  have HC2 := Lib.hid cl1
  have HP2 := Lib.hid cl2
  have HO := Lib.hid hown
  have HNX := Lib.hid HNX
  have HC9 := Lib.hid c1
  clear cl0 cl1 cl2 hown hon HS HR c1
  refine wp_region_noPanic ?_
  refine wp_region_held_drew (S := fun w' => w'.cell? ⟨g, 1, none⟩ = some (.int .i64 (p : Int))) (by kernel_rfl) HC9.out (fun hHeld => ?_)
  generalize X1.drew = X2 at HC1 HC2 HP2 HO HNX HC9 hB8 hHeld ⊢
  refine qts [0, 1, 2, 3, 5, 6, 7, 8, 9, 10, 11] hHeld ?_
  iterate 9 (refine qtc (v := ?_) rfl rfl (fun w' hw' => ?_) ?_; rotate_left; (focus (go_simp; try with_reducible rfl)); simp only [zt,zs,zz,Act.put,zi,zy,zx])
  (refine qtc (v := ?_) rfl rfl (fun w' hw' => ?_) ?_; rotate_left; (focus ((have q := hw'; go_simp); try with_reducible rfl)); simp only [zt,zs,zz,Act.put,zi,zy,zx])
  (refine qtc (v := ?_) rfl rfl (fun w' hw' => ?_) ?_; rotate_left; (focus (go_simp; try with_reducible rfl)); simp only [zt,zs,zz,Act.put,zi,zy,zx])
  refine qtn ?_
  simp only [zt,zs,zz,Act.put,zi,zy,zx,qzl,qzn,qza,Nat.reduceAdd,Nat.reduceSub]
  refine wpAnyH_ready (rs := [4, 12]) (by kernel_rfl) (by simp) ?_
  refine (AllReadyH.cons rfl (fun K hK => ?_) (AllReadyH.cons rfl (fun K hK => ?_) AllReadyH.nil))
  ·skip
   have cl := HC1.out
   go_simp
   refine hK.out _ _ hHeld (fun hHeld => ?_)
   clear cl
   clear hK K
   try simp only [zt,zs,zz,Act.put,zi,zy,zx]
   refine wpAnyH_ready (rs := [12]) (by kernel_rfl) (by simp) ?_
   refine (AllReadyH.cons rfl (fun K hK => ?_) AllReadyH.nil)
   go_simp
   refine hK.out _ _ HP2.out (fun hHeld => ?_)
   clear hK K
   try simp only [zt,zs,zz,Act.put,zi,zy,zx]
   refine wpAnyH_ready (rs := [13]) (by kernel_rfl) (by simp) ?_
   refine (AllReadyH.cons rfl (fun K hK => ?_) AllReadyH.nil)
   rw [if_pos (by rfl)]
   refine wp_app3 (Operand.tmp 31) (Operand.tmp 39) rfl (g + 1) (.slice ao2 on c2) on xs rfl HO.out X2.heap.size 1 rfl [.bool true, .int .i64 (p : Int), .slice none 0 0] rfl (fun i u hu => ?_) (by simp [Value.oneCell']) (by omega) hB8 ?_
   ·have q : (X2.alloc (.cells #[.bool true, .int .i64 (p : Int), .slice none 0 0] 137)).cell? ⟨X2.heap.size, i, none⟩ = some u := by rw [Lib.cell_of_heap (alloc_at X2 (.cells #[.bool true, .int .i64 (p : Int), .slice none 0 0] 137))]; simpa using hu
    exact q
   intro v' w9 hown9 hg9 hv9
   obtain ⟨y1, y2, y3, y4, hfin⟩ := HNX.out v' w9 hown9 hg9 hv9
   obtain ⟨vo, vc, rfl⟩ := row_form hown9 (by decide)
   have HY2 := Lib.hid y2
   have HY3 := Lib.hid y3
   have HY4 := Lib.hid y4
   have HFIN := Lib.hid hfin
   clear hown9 hg9 hv9 hfin y2 y3 y4
   refine hK.out _ _ y1 (fun hHeld => ?_)
   clear y1
   clear hK K
   try simp only [zt,zs,zz,Act.put,zi,zy,zx]
   refine qtk (i := 14) (v := ?v46) rfl rfl (fun w' hw' => ?h46) hHeld ?r46
   case h46 => go_simp; try with_reducible rfl
   simp only [zt,zs,zz,Act.put,zi,zy,zx]
   refine qtk (i := 15) (v := ?v47) rfl rfl (fun w' hw' => ?h47) hHeld ?r47
   case h47 => go_simp; try with_reducible rfl
   simp only [zt,zs,zz,Act.put,zi,zy,zx]
   refine wpAnyH_ready (rs := [16]) (by kernel_rfl) (by simp) ?_
   refine (AllReadyH.cons rfl (fun K hK => ?_) AllReadyH.nil)
   have cl := HY2.out
   have cf := HY3.out
   go_simp
   refine hK.out _ _ HY4.out (fun hHeld => ?_)
   clear cl cf
   clear hK K
   try simp only [zt,zs,zz,Act.put,zi,zy,zx]
   refine wpAnyH_done (by kernel_rfl) ?_ _
   refine NoPanic.normal ?_
   clear hHeld
   generalize w9.setCell ⟨g, 2, none⟩ (.slice vo (on + 1) vc) = X3 at HFIN HY4 ⊢
   obtain ⟨ao3, c3, bo3, dd3, hf3⟩ := HFIN.out.rd.form
   have d1 := hf3.cells.2.1
   have fz := hf3.frozen 1
   have e9 := wrap_succ p (by omega)
   have HRD := Lib.hid (HFIN.out.rd.setP (p + 1))
   have HL1 : Hid (Below g w (X3.setCell ⟨g, 1, none⟩ (.int .i64 ((p + 1 : Nat) : Int)))) := HFIN.out.low.setCell (p := ⟨g, 1, none⟩) (Nat.le_refl _) _
   have hz : (X3.setCell ⟨g, 1, none⟩ (.int .i64 ((p + 1 : Nat) : Int))).heap.size = X3.heap.size := by simp [World.setCell]
   have HZ1 := Lib.hid hz
   have HZ2 := Lib.hid HFIN.out.size
   clear hf3 hz HFIN
   go_wp2_with fail
   go_ret
   have hn := HN.out
   unfold RetNx
   rw [hn]
   exact ⟨rfl, HL1.out, by have h1 := HZ1.out; have h2 := HZ2.out; push_cast at h1; rw [h1]; exact h2, fun _ => ⟨D, by have h1 := HZ1.out; have h2 := HRD.out; push_cast at h1 h2 ⊢; rw [h1]; exact h2⟩, fun h => absurd rfl h⟩
  ·skip
   go_simp
   refine hK.out _ _ HP2.out (fun hHeld => ?_)
   clear hK K
   try simp only [zt,zs,zz,Act.put,zi,zy,zx]
   refine wpAnyH_ready (rs := [4]) (by kernel_rfl) (by simp) ?_
   refine (AllReadyH.cons rfl (fun K hK => ?_) AllReadyH.nil)
   have cl := HC2.out
   go_simp
   refine hK.out _ _ hHeld (fun hHeld => ?_)
   clear cl
   clear hK K
   try simp only [zt,zs,zz,Act.put,zi,zy,zx]
   refine wpAnyH_ready (rs := [13]) (by kernel_rfl) (by simp) ?_
   refine (AllReadyH.cons rfl (fun K hK => ?_) AllReadyH.nil)
   rw [if_pos (by rfl)]
   refine wp_app3 (Operand.tmp 31) (Operand.tmp 39) rfl (g + 1) (.slice ao2 on c2) on xs rfl HO.out X2.heap.size 1 rfl [.bool true, .int .i64 (p : Int), .slice none 0 0] rfl (fun i u hu => ?_) (by simp [Value.oneCell']) (by omega) hB8 ?_
   ·have q : (X2.alloc (.cells #[.bool true, .int .i64 (p : Int), .slice none 0 0] 137)).cell? ⟨X2.heap.size, i, none⟩ = some u := by rw [Lib.cell_of_heap (alloc_at X2 (.cells #[.bool true, .int .i64 (p : Int), .slice none 0 0] 137))]; simpa using hu
    exact q
   intro v' w9 hown9 hg9 hv9
   obtain ⟨y1, y2, y3, y4, hfin⟩ := HNX.out v' w9 hown9 hg9 hv9
   obtain ⟨vo, vc, rfl⟩ := row_form hown9 (by decide)
   have HY2 := Lib.hid y2
   have HY3 := Lib.hid y3
   have HY4 := Lib.hid y4
   have HFIN := Lib.hid hfin
   clear hown9 hg9 hv9 hfin y2 y3 y4
   refine hK.out _ _ y1 (fun hHeld => ?_)
   clear y1
   clear hK K
   try simp only [zt,zs,zz,Act.put,zi,zy,zx]
   refine qtk (i := 14) (v := ?v48) rfl rfl (fun w' hw' => ?h48) hHeld ?r48
   case h48 => go_simp; try with_reducible rfl
   simp only [zt,zs,zz,Act.put,zi,zy,zx]
   refine qtk (i := 15) (v := ?v49) rfl rfl (fun w' hw' => ?h49) hHeld ?r49
   case h49 => go_simp; try with_reducible rfl
   simp only [zt,zs,zz,Act.put,zi,zy,zx]
   refine wpAnyH_ready (rs := [16]) (by kernel_rfl) (by simp) ?_
   refine (AllReadyH.cons rfl (fun K hK => ?_) AllReadyH.nil)
   have cl := HY2.out
   have cf := HY3.out
   go_simp
   refine hK.out _ _ HY4.out (fun hHeld => ?_)
   clear cl cf
   clear hK K
   try simp only [zt,zs,zz,Act.put,zi,zy,zx]
   refine wpAnyH_done (by kernel_rfl) ?_ _
   refine NoPanic.normal ?_
   clear hHeld
   generalize w9.setCell ⟨g, 2, none⟩ (.slice vo (on + 1) vc) = X3 at HFIN HY4 ⊢
   obtain ⟨ao3, c3, bo3, dd3, hf3⟩ := HFIN.out.rd.form
   have d1 := hf3.cells.2.1
   have fz := hf3.frozen 1
   have e9 := wrap_succ p (by omega)
   have HRD := Lib.hid (HFIN.out.rd.setP (p + 1))
   have HL1 : Hid (Below g w (X3.setCell ⟨g, 1, none⟩ (.int .i64 ((p + 1 : Nat) : Int)))) := HFIN.out.low.setCell (p := ⟨g, 1, none⟩) (Nat.le_refl _) _
   have hz : (X3.setCell ⟨g, 1, none⟩ (.int .i64 ((p + 1 : Nat) : Int))).heap.size = X3.heap.size := by simp [World.setCell]
   have HZ1 := Lib.hid hz
   have HZ2 := Lib.hid HFIN.out.size
   clear hf3 hz HFIN
   go_wp2_with fail
   go_ret
   have hn := HN.out
   unfold RetNx
   rw [hn]
   exact ⟨rfl, HL1.out, by have h1 := HZ1.out; have h2 := HZ2.out; push_cast at h1; rw [h1]; exact h2, fun _ => ⟨D, by have h1 := HZ1.out; have h2 := HRD.out; push_cast at h1 h2 ⊢; rw [h1]; exact h2⟩, fun h => absurd rfl h⟩
end Go.Proofs.Ytecljchifebljaa
namespace Go.Proofs.Ytecljchifebljaa
open Go.RowKit Go.BigM
theorem Stt.setP {D : Nat → Prop} {g : Nat} {s : ByteArray} {p : Nat} {es : List En} {out : List Dt} {w X : World} (h : Stt D g s p es out w X) (q : Nat) : Stt D g s q es out w (X.setCell ⟨g, 1, none⟩ (.int .i64 (q : Int))) := by
 have hz : (X.setCell ⟨g, 1, none⟩ (.int .i64 (q : Int))).heap.size = X.heap.size := by simp [World.setCell]
 exact ⟨by rw [hz]; exact h.rd.setP q, h.low.setCell (p := ⟨g, 1, none⟩) (Nat.le_refl _) _, by rw [hz]; exact h.size⟩
theorem dat_setg {D : Nat → Prop} {g o : Nat} {X : World} {v : Value} {d : Dt} {cs : Array Value} (hD : ∀ x, D x → g + 1 ≤ x) (h : Dt.At D X d cs) : Dt.At D (X.setCell ⟨g, o, none⟩ v) d cs :=
 Dt.At.keeps (fun x c T fz hx hh _ => ⟨fz, by rw [Below.heap_setCell X _ _ x (by show x ≠ g; have := hD x hx; omega)]; exact hh⟩) _ _ h
theorem Stt.dom {D : Nat → Prop} {g : Nat} {s : ByteArray} {p : Nat} {es : List En} {out : List Dt} {w X : World} (h : Stt D g s p es out w X) : ∀ x, D x → g + 1 ≤ x := by
 obtain ⟨⟨ov, dv, xs, _, _, _, hD, _⟩, _, _⟩ := h
 exact fun x hx => (hD x hx).1
theorem close_step {D : Nat → Prop} {g : Nat} {s : ByteArray} {p : Nat} {e : En} {r : List En} {out : List Dt} {w X : World} (h : Stt D g s p (e :: r) out w X) (hgX : g < X.heap.size) :
  ∃ og c lo ln lc, X.cell? ⟨g, 2, none⟩ = some (.slice (some ⟨og, 0, none⟩) (r.length + 1) c) ∧ r.length + 1 ≤ c ∧ c ≤ maxLen ∧ og < X.heap.size ∧
   (X.cell? ⟨og, r.length * 3, none⟩ = some (.bool e.q) ∧ X.cell? ⟨og, r.length * 3 + 1, none⟩ = some (.int .i64 e.pl) ∧ X.cell? ⟨og, r.length * 3 + 2, none⟩ = some (.slice lo ln lc)) ∧
   ∀ Y, Below X.heap.size X Y → (Y.cell? ⟨g, 1, none⟩ = some (.int .i64 (p : Int)) ∧ Y.cell? ⟨g, 2, none⟩ = some (.slice (some ⟨og, 0, none⟩) (r.length + 1) c) ∧ Y.frozen? ⟨g, 2, none⟩ = false) ∧
    (e.q = false → ∃ D', Stt D' g s p r out w (Y.setCell ⟨g, 2, none⟩ (.slice (some ⟨og, 0, none⟩) r.length c)) ∧ Dt.At D' (Y.setCell ⟨g, 2, none⟩ (.slice (some ⟨og, 0, none⟩) r.length c)) e.dt #[.int .i64 4, .string ⟨#[]⟩, .slice none 0 0, .slice lo ln lc, .int .i64 e.pl]) := by
 obtain ⟨og, c, arr, lw, dv, hR, hnc, hcm, hgo, hoN, hh, hcs, ⟨a0, a1, a2⟩, ⟨lo, lc, hlf⟩, hq, hlB, _, _, _⟩ := h.rd.top hgX
 obtain ⟨ln, hln⟩ : ∃ ln, ln = (if e.q = true then [] else e.ds).length := ⟨_, rfl⟩
 rw [← hln] at hlf
 subst hlf
 refine ⟨og, c, lo, ln, lc, hR.cells.2.2.1, hnc, hcm, hoN, ⟨by rw [Lib.cell_of_heap hh]; exact a0, by rw [Lib.cell_of_heap hh]; exact a1, by rw [Lib.cell_of_heap hh]; exact a2⟩, fun Y hb => ?_⟩
 have hs := hb.size
 have hg2 : Y.heap[g]? = X.heap[g]? := hb.block g hgX
 have hRY := rs3_of hR hg2
 have hrY : RdAt D Y.heap.size Y g s p (e :: r) out := (h.rd.keep (fun x _ hx => hb.block x hx) hgX hs).wide hs (Nat.le_refl _)
 obtain ⟨og', c', arr', lw', dv', hR', _, _, _, _, hh', _, ⟨a0', a1', a2'⟩, _, _, hlB', hpop, hlat, _⟩ := hrY.top (by omega)
 have e1 := hR'
 unfold Rs3 at e1 hR
 rw [hg2, hR] at e1
 injection e1 with e1
 injection e1 with e1 _ _
 simp only [Array.mk.injEq, List.cons.injEq, Value.slice.injEq, Option.some.injEq, Addr.mk.injEq, and_true, true_and] at e1
 obtain ⟨⟨rfl, rfl⟩, rfl⟩ := e1
 rw [hb.block og hoN, hh] at hh'
 injection hh' with hh'
 injection hh' with hh' _ _
 subst hh'
 rw [a2] at a2'
 injection a2' with a2'
 subst a2'
 refine ⟨⟨hRY.cells.2.1, hRY.cells.2.2.1, hRY.frozen 2⟩, fun hqf => ?_⟩
 have hz : (Y.setCell ⟨g, 2, none⟩ (.slice (some ⟨og, 0, none⟩) r.length c)).heap.size = Y.heap.size := by simp [World.setCell]
 have hst : Stt (fun x => D x ∨ (Value.slice lo ln lc).ownBlock = some x) g s p r out w (Y.setCell ⟨g, 2, none⟩ (.slice (some ⟨og, 0, none⟩) r.length c)) :=
  ⟨by rw [hz]; exact hpop, (h.low.trans (hb.mono (by omega))).setCell (p := ⟨g, 2, none⟩) (Nat.le_refl _) _, by rw [hz]; have := h.size; omega⟩
 refine ⟨_, hst, dat_setg hst.dom ?_⟩
 show Dt.At _ _ (.mk 4 ⟨#[]⟩ [] e.ds e.pl) _
 rw [At_mk]
 exact ⟨_, _, rfl, .inl ⟨rfl, rfl⟩, hlat hqf⟩
set_option maxHeartbeats 16000000 in
set_option maxRecDepth 100000 in
theorem next_close {D : Nat → Prop} (g : Nat) (s : ByteArray) (p : Nat) (es : List En) (out : List Dt) (b : UInt8) (w : World) (h : RdAt D w.heap.size w g s p es out) (hgN : g < w.heap.size) (hp : p < s.size) (hb : s[p] = b) (hs : s.size ≤ 8000) (hB : Bnd es out p) (hbv : b = 41) :
  Calls Try.prog 64 #[.pointer (some ⟨g, 0, none⟩)] w (RetNx g s p b es out w) := by
 obtain ⟨ao, c, bo, dd, hf⟩ := h.form
 obtain ⟨dv, hdv⟩ : ∃ v, v = Value.slice bo out.length dd := ⟨_, rfl⟩
 rw [← hdv] at hf
 have HS := Lib.hid (Stt.start h)
 have HR := Lib.hid hf
 have HB := Lib.hid hB
 have HBB := Lib.hid hb
 have hel : es.length ≤ 60 := hB.2.2
 clear h hB hdv hf hb
 have HBV := Lib.hid hbv
 have hbn : b.toNat = 41 := by rw [hbv]; rfl
 have E40 : ((b.toNat : Int) == 40) = false := by simpa using (show ¬ (b.toNat : Int) = 40 by omega)
 have E39 : ((b.toNat : Int) == 39) = false := by simpa using (show ¬ (b.toNat : Int) = 39 by omega)
 have E41 : ((b.toNat : Int) == 41) = true := by simpa using (show (b.toNat : Int) = 41 by omega)
 clear hbv hbn
 go_enter Try.func64, Try.ntmps64
 go_upto_region 1 with fail
 have HC : Hid (∀ w', Below w.heap.size w w' → w'.cell? ⟨g, 0, none⟩ = some (.string s) ∧ w'.cell? ⟨g, 1, none⟩ = some (.int .i64 (p : Int)) ∧ w'.cell? ⟨g, 2, none⟩ = some (.slice ao es.length c) ∧ w'.cell? ⟨g, 3, none⟩ = some dv) := fun w' hw' => by
  have h9 : w'.heap[g]? = some (.cells #[.string s, .int .i64 (p : Int), .slice ao es.length c, dv] 114 (0, 0)) := by rw [hw'.block g HR.out.lt]; exact HR.out
  exact Rs3.cells (p := p) h9
 have HS0 : Hid (Below w.heap.size w w.drew) := (Below.refl _ _).drew
 replace HS : Hid (Stt D g s p es out w w.drew) := HS.out.drew HR.out.lt
 replace HR : Hid (Rs3 w.drew g s p (.slice ao es.length c) dv) := HR.out
 refine wp_region_noPanic ?_
 refine wp_region_held_drew (S := Below w.heap.size w) (by kernel_rfl) HS0.out (fun hHeld => ?_)
 generalize w.drew = X1 at HS0 HS HR hHeld ⊢
 refine qts [0, 1, 2, 3, 4, 5, 6, 7, 8, 9] hHeld ?_
 iterate 8 (refine qtc (v := ?_) rfl rfl (fun w' hw' => ?_) ?_; rotate_left; (focus ((obtain ⟨d0, d1, d2, d3⟩ := HC.out w' hw'; go_simp); try with_reducible rfl)); simp only [zt,zs,zz,Act.put,zi,zy,zx])
 (refine qtc (v := Value.int .u8 ((s[p]'hp).toNat : Int)) rfl rfl (fun w' hw' => ?_) ?_; (focus (go_simp)); simp only [zt,zs,zz,Act.put,zi,zy,zx])
 (refine qtc (v := ?_) rfl rfl (fun w' hw' => ?_) ?_; rotate_left; (focus ((obtain ⟨d0, d1, d2, d3⟩ := HC.out w' hw'; go_simp); try with_reducible rfl)); simp only [zt,zs,zz,Act.put,zi,zy,zx])
 refine qtn ?_
 simp only [zt,zs,zz,Act.put,zi,zy,zx,qzl,qzn,qza,Nat.reduceAdd,Nat.reduceSub]
 refine wpAnyH_done (by kernel_rfl) ?_ _
 refine NoPanic.normal ?_
 clear hHeld
 clear HC HS0
 rw [HBB.out]
 cases es with
 | nil =>
  have HN : Hid (nxt s p b [] out = (4, p, [], out)) := by
   show _ = _
   unfold nxt
   rw [HBV.out, if_neg (by decide), if_pos rfl]
  have d2 := HR.out.cells.2.2.1
  go_upto_region 9 with fail
  clear d2
  have HC : Hid (∀ w', Below X1.heap.size X1 w' → w'.cell? ⟨g, 0, none⟩ = some (.string s) ∧ w'.cell? ⟨g, 1, none⟩ = some (.int .i64 (p : Int)) ∧ w'.cell? ⟨g, 2, none⟩ = some (.slice ao ([] : List En).length c) ∧ w'.cell? ⟨g, 3, none⟩ = some dv) := fun w' hw' => by
   have h9 : w'.heap[g]? = some (.cells #[.string s, .int .i64 (p : Int), .slice ao ([] : List En).length c, dv] 114 (0, 0)) := by rw [hw'.block g HR.out.lt]; exact HR.out
   exact Rs3.cells (p := p) h9
  have HS0 : Hid (Below X1.heap.size X1 X1.drew) := (Below.refl _ _).drew
  replace HS : Hid (Stt D g s p [] out w X1.drew) := HS.out.drew HR.out.lt
  replace HR : Hid (Rs3 X1.drew g s p (.slice ao ([] : List En).length c) dv) := HR.out
  refine wp_region_noPanic ?_
  refine wp_region_held_drew (S := Below X1.heap.size X1) (by kernel_rfl) HS0.out (fun hHeld => ?_)
  generalize X1.drew = X2 at HS0 HS HR hHeld ⊢
  refine qts [0, 1, 2, 3, 4, 5, 6, 7, 8, 9, 10, 11, 12, 13, 14, 15, 16, 17, 18, 19, 20] hHeld ?_
  iterate 7 (refine qtc (v := ?_) rfl rfl (fun w' hw' => ?_) ?_; rotate_left; (focus ((obtain ⟨d0, d1, d2, d3⟩ := HC.out w' hw'; go_simp); try with_reducible rfl)); simp only [zt,zs,zz,Act.put,zi,zy,zx])
  iterate 13 (refine qtz rfl rfl ?_; simp only [zt,zs,zz,Act.put,zi,zy,zx])
  (refine qtc (v := ?_) rfl rfl (fun w' hw' => ?_) ?_; rotate_left; (focus ((obtain ⟨d0, d1, d2, d3⟩ := HC.out w' hw'; go_simp); try with_reducible rfl)); simp only [zt,zs,zz,Act.put,zi,zy,zx])
  refine qtn ?_
  simp only [zt,zs,zz,Act.put,zi,zy,zx,qzl,qzn,qza,Nat.reduceAdd,Nat.reduceSub]
  refine wpAnyH_done (by kernel_rfl) ?_ _
  refine NoPanic.normal ?_
  clear hHeld
  clear HC HS0
  go_wp2_with fail
  go_ret
  have hn := HN.out
  unfold RetNx
  rw [hn]
  exact ⟨rfl, HS.out.low, HS.out.size, fun h => absurd h (by simp), fun _ => ⟨_, _, HR.out⟩⟩
 | cons e r =>
  obtain ⟨og, c3, lo2, ln2, lc2, f0, hnc, hcm, hogl, ⟨f1, f2, f3⟩, HY⟩ := close_step HS.out HR.out.lt
  have d2 := HR.out.cells.2.2.1
  rw [d2] at f0
  injection f0 with f0
  injection f0 with f0 f0b f0c
  subst f0 f0c
  clear f0b
  obtain ⟨rn, hrn⟩ : ∃ rn, rn = r.length := ⟨_, rfl⟩
  obtain ⟨eq9, heq9⟩ : ∃ b, b = e.q := ⟨_, rfl⟩
  obtain ⟨ep, hep⟩ : ∃ b, b = e.pl := ⟨_, rfl⟩
  simp only [List.length_cons, ← hrn, ← heq9, ← hep] at d2 f1 f2 f3 HY hnc hel
  have hgl : g < X1.heap.size := HR.out.lt
  have HY := Lib.hid HY
  have HRN := Lib.hid hrn
  have HEP := Lib.hid hep
  have HEQ9 := Lib.hid heq9
  have hpp := HR.out.cells.2.1
  go_upto_region 9 with fail
  have HC : Hid (∀ w', Below X1.heap.size X1 w' → w'.cell? ⟨g, 2, none⟩ = some (.slice (some ⟨og, 0, none⟩) (rn + 1) c) ∧ w'.cell? ⟨og, rn * 3, none⟩ = some (.bool eq9) ∧ w'.cell? ⟨og, rn * 3 + 1, none⟩ = some (.int .i64 ep) ∧ w'.cell? ⟨og, rn * 3 + 2, none⟩ = some (.slice lo2 ln2 lc2)) := fun w' hw' => ⟨(hw'.cell hgl).trans d2, (hw'.cell hogl).trans f1, (hw'.cell hogl).trans f2, (hw'.cell hogl).trans f3⟩
  clear hrn heq9 hep d2 f1 f2 f3 hpp
  have HS0 : Hid (Below X1.heap.size X1 X1.drew) := (Below.refl _ _).drew
  have HS2 : Hid (Stt D g s p (e :: r) out w X1.drew) := HS.out.drew HR.out.lt
  have HR2 : Hid (Rs3 X1.drew g s p (.slice (some ⟨og, 0, none⟩) (e :: r).length c) dv) := HR.out
  refine wp_region_noPanic ?_
  refine wp_region_held_drew (S := Below X1.heap.size X1) (by kernel_rfl) HS0.out (fun hHeld => ?_)
  generalize X1.drew = X2 at HS0 HS2 HR2 hHeld ⊢
  refine qts [0, 1, 2, 3, 4, 5, 6, 7, 8, 9, 10, 11, 12, 13, 14, 15, 16, 17, 18, 19, 20] hHeld ?_
  iterate 16 (refine qtc (v := ?_) rfl rfl (fun w' hw' => ?_) ?_; rotate_left; (focus ((obtain ⟨q1, q2, q3, q4⟩ := HC.out w' hw'; go_simp); try with_reducible rfl)); simp only [zt,zs,zz,Act.put,zi,zy,zx])
  (refine qtc (v := Value.int .i64 (rn : Int)) rfl rfl (fun w' hw' => ?_) ?_; (focus (go_simp; rw [IntKind.wrap_i64]; omega)); simp only [zt,zs,zz,Act.put,zi,zy,zx])
  (refine qtc (v := Value.pointer (some ⟨og, rn * 3, none⟩)) rfl rfl (fun w' hw' => ?_) ?_; (focus (go_simp; intro hq; omega)); simp only [zt,zs,zz,Act.put,zi,zy,zx])
  iterate 2 (refine qtc (v := ?_) rfl rfl (fun w' hw' => ?_) ?_; rotate_left; (focus ((obtain ⟨q1, q2, q3, q4⟩ := HC.out w' hw'; go_simp); try with_reducible rfl)); simp only [zt,zs,zz,Act.put,zi,zy,zx])
  (refine qtc (v := Value.bool eq9) rfl rfl (fun w' hw' => ?_) ?_; (focus (go_simp; intro hq; omega)); simp only [zt,zs,zz,Act.put,zi,zy,zx])
  refine qtn ?_
  simp only [zt,zs,zz,Act.put,zi,zy,zx,qzl,qzn,qza,Nat.reduceAdd,Nat.reduceSub]
  refine wpAnyH_done (by kernel_rfl) ?_ _
  refine NoPanic.normal ?_
  clear hHeld
  cases eq9 with
  | true =>
   have HN : Hid (nxt s p b (e :: r) out = (4, p, e :: r, out)) := by
    show _ = _
    unfold nxt
    rw [HBV.out, if_neg (by decide), if_pos rfl]
    simp only []
    rw [if_pos HEQ9.out.symm]
   go_wp2_with fail
   go_ret
   have hn := HN.out
   unfold RetNx
   rw [hn]
   exact ⟨rfl, HS2.out.low, HS2.out.size, fun h => absurd h (by simp), fun _ => ⟨_, _, HR2.out⟩⟩
  | false =>
   have HN : Hid (nxt s p b (e :: r) out = (0, p + 1, (putS e.dt r out).1, (putS e.dt r out).2)) := by
    show _ = _
    unfold nxt
    rw [HBV.out, if_neg (by decide), if_pos rfl]
    simp only []
    rw [if_neg (by rw [← HEQ9.out]; decide)]
   go_upto_region 11 with fail
   have HS1 : Hid (Below X1.heap.size X1 X2.drew) := HS0.out.drew
   refine wp_region_noPanic ?_
   refine wp_region_held_drew (S := Below X1.heap.size X1) (by kernel_rfl) HS1.out (fun hHeld => ?_)
   generalize X2.drew = X3 at HS1 hHeld ⊢
   refine qts [0, 1, 2, 3, 4, 5, 6, 7, 8, 9, 10, 11] hHeld ?_
   iterate 9 (refine qtc (v := ?_) rfl rfl (fun w' hw' => ?_) ?_; rotate_left; (focus ((obtain ⟨q1, q2, q3, q4⟩ := HC.out w' hw'; go_simp); try with_reducible rfl)); simp only [zt,zs,zz,Act.put,zi,zy,zx])
   (refine qtc (v := Value.int .i64 (rn : Int)) rfl rfl (fun w' hw' => ?_) ?_; (focus (go_simp; rw [IntKind.wrap_i64]; omega)); simp only [zt,zs,zz,Act.put,zi,zy,zx])
   (refine qtc (v := Value.pointer (some ⟨og, rn * 3, none⟩)) rfl rfl (fun w' hw' => ?_) ?_; (focus (go_simp; intro hq; omega)); simp only [zt,zs,zz,Act.put,zi,zy,zx])
   (refine qtc (v := ?_) rfl rfl (fun w' hw' => ?_) ?_; rotate_left; (focus ((obtain ⟨q1, q2, q3, q4⟩ := HC.out w' hw'; go_simp); try with_reducible rfl)); simp only [zt,zs,zz,Act.put,zi,zy,zx])
   refine qtn ?_
   simp only [zt,zs,zz,Act.put,zi,zy,zx,qzl,qzn,qza,Nat.reduceAdd,Nat.reduceSub]
   refine wpAnyH_ready (rs := [12]) (by kernel_rfl) (by simp) ?_
   refine (AllReadyH.cons rfl (fun K hK => ?_) AllReadyH.nil)
   go_simp
   refine hK.out _ _ (HS1.out.alloc (by have := HS1.out.size; omega) _) (fun hHeld => ?_)
   clear hK K
   try simp only [zt,zs,zz,Act.put,zi,zy,zx]
   refine wpAnyH_ready (rs := [13]) (by kernel_rfl) (by simp) ?_
   refine (AllReadyH.cons rfl (fun K hK => ?_) AllReadyH.nil)
   go_simp
   refine hK.out _ _ (HS1.out.alloc (by have := HS1.out.size; omega) _) (fun hHeld => ?_)
   clear hK K
   try simp only [zt,zs,zz,Act.put,zi,zy,zx]
   refine wpAnyH_done (by kernel_rfl) ?_ _
   refine NoPanic.normal ?_
   clear hHeld
   have hnx := alloc_at X3 (.cells #[.bool false, .int .i64 ep, .slice lo2 ln2 lc2] 137)
   have hsx : (X3.alloc (.cells #[.bool false, .int .i64 ep, .slice lo2 ln2 lc2] 137)).heap.size = X3.heap.size + 1 := by simp
   have hbx : Below X1.heap.size X1 (X3.alloc (.cells #[.bool false, .int .i64 ep, .slice lo2 ln2 lc2] 137)) := HS1.out.alloc (by have := HS1.out.size; omega) _
   obtain ⟨n4, hn4⟩ : ∃ n4, n4 = X3.heap.size := ⟨_, rfl⟩
   rw [← hn4] at hnx hsx ⊢
   have hgn4 : g < n4 := by have := HS1.out.size; omega
   generalize X3.alloc (.cells #[.bool false, .int .i64 ep, .slice lo2 ln2 lc2] 137) = X4 at hnx hsx hbx ⊢
   have k1 : X4.cell? ⟨n4, 1, none⟩ = some (.int .i64 ep) := by rw [Lib.cell_of_heap hnx]; rfl
   have k2 : X4.cell? ⟨n4, 2, none⟩ = some (.slice lo2 ln2 lc2) := by rw [Lib.cell_of_heap hnx]; rfl
   obtain ⟨⟨y1, y2, y3⟩, hY⟩ := HY.out X4.drew hbx.drew
   obtain ⟨D', hS', hd'⟩ := hY rfl
   have HY1 := Lib.hid y1
   have HY2 := Lib.hid y2
   have HY3 := Lib.hid y3
   have HS4 := Lib.hid hS'
   have HD4 := Lib.hid hd'
   have HK1 : Hid (X4.drew.cell? ⟨n4, 1, none⟩ = some (.int .i64 ep)) := k1
   have HK2 : Hid (X4.drew.cell? ⟨n4, 2, none⟩ = some (.slice lo2 ln2 lc2)) := k2
   have HSX := Lib.hid hsx
   clear hnx hsx hbx hn4 k1 k2 hY hS' hd' y1 y2 y3 HC HY HS0 HS1 HR HR2 HS HS2
   go_upto_region 12 with fail
   refine wp_region_noPanic ?_
   refine wp_region_held_drew (S := fun _ => True) (by kernel_rfl) trivial (fun hHeld => ?_)
   generalize X4.drew = XE at HY1 HY2 HY3 HS4 HD4 HK1 HK2 hHeld ⊢
   refine qts [0, 1, 2, 3, 5, 6, 7] hHeld ?_
   iterate 7 (refine qtc (v := ?_) rfl rfl (fun w' hw' => ?_) ?_; rotate_left; (focus (go_simp; try with_reducible rfl)); simp only [zt,zs,zz,Act.put,zi,zy,zx])
   refine qtn ?_
   simp only [zt,zs,zz,Act.put,zi,zy,zx,qzl,qzn,qza,Nat.reduceAdd,Nat.reduceSub]
   refine wpAnyH_ready (rs := [4, 8]) (by kernel_rfl) (by simp) ?_
   refine (AllReadyH.cons rfl (fun K hK => ?_) (AllReadyH.cons rfl (fun K hK => ?_) AllReadyH.nil))
   ·skip
    have cl := HY2.out
    go_simp
    refine hK.out _ _ trivial (fun hHeld => ?_)
    clear cl
    clear hK K
    try simp only [zt,zs,zz,Act.put,zi,zy,zx]
    refine wpAnyH_ready (rs := [8]) (by kernel_rfl) (by simp) ?_
    refine (AllReadyH.cons rfl (fun K hK => ?_) AllReadyH.nil)
    have cl := HY2.out
    go_simp
    refine hK.out _ _ trivial (fun hHeld => ?_)
    clear cl
    clear hK K
    try simp only [zt,zs,zz,Act.put,zi,zy,zx]
    refine qts [9, 10, 11, 12, 13] hHeld ?_
    (refine qtc (v := ?_) rfl rfl (fun w' hw' => ?_) ?_; rotate_left; (focus (go_simp; try with_reducible rfl)); simp only [zt,zs,zz,Act.put,zi,zy,zx])
    (refine qtc (v := Value.int .i64 (rn : Int)) rfl rfl (fun w' hw' => ?_) ?_; (focus (go_simp; rw [IntKind.wrap_i64]; omega)); simp only [zt,zs,zz,Act.put,zi,zy,zx])
    (refine qtc (v := Value.slice (some ⟨og, 0, none⟩) rn c) rfl rfl (fun w' hw' => ?_) ?_; (focus (go_simp; intro hq; omega)); simp only [zt,zs,zz,Act.put,zi,zy,zx])
    iterate 2 (refine qtc (v := ?_) rfl rfl (fun w' hw' => ?_) ?_; rotate_left; (focus (go_simp; try with_reducible rfl)); simp only [zt,zs,zz,Act.put,zi,zy,zx])
    refine qtn ?_
    simp only [zt,zs,zz,Act.put,zi,zy,zx,qzl,qzn,qza,Nat.reduceAdd,Nat.reduceSub]
    refine wpAnyH_ready (rs := [14]) (by kernel_rfl) (by simp) ?_
    refine (AllReadyH.cons rfl (fun K hK => ?_) AllReadyH.nil)
    have cl := HY2.out
    have cf := HY3.out
    go_simp
    refine hK.out _ _ trivial (fun hHeld => ?_)
    clear cl cf
    clear hK K
    try simp only [zt,zs,zz,Act.put,zi,zy,zx]
    refine wpAnyH_done (by kernel_rfl) ?_ _
    refine NoPanic.normal ?_
    clear hHeld
    have hk1 : ((XE.setCell ⟨g, 2, none⟩ (.slice (some ⟨og, 0, none⟩) rn c)).setCell ⟨g, 1, none⟩ (.int .i64 ((p + 1 : Nat) : Int))).cell? ⟨n4, 1, none⟩ = some (.int .i64 ep) := by
     rw [World.cell?_setCell_far _ _ _ _ (by show g ≠ n4; omega), World.cell?_setCell_far _ _ _ _ (by show g ≠ n4; omega)]; exact HK1.out
    have hk2 : ((XE.setCell ⟨g, 2, none⟩ (.slice (some ⟨og, 0, none⟩) rn c)).setCell ⟨g, 1, none⟩ (.int .i64 ((p + 1 : Nat) : Int))).cell? ⟨n4, 2, none⟩ = some (.slice lo2 ln2 lc2) := by
     rw [World.cell?_setCell_far _ _ _ _ (by show g ≠ n4; omega), World.cell?_setCell_far _ _ _ _ (by show g ≠ n4; omega)]; exact HK2.out
    have HS5 := Lib.hid (HS4.out.setP (p + 1))
    have HD5 := Lib.hid (dat_setg (o := 1) (v := .int .i64 ((p + 1 : Nat) : Int)) HS4.out.dom HD4.out)
    obtain ⟨ao3, c3, bo3, dd3, hf3⟩ := HS4.out.rd.form
    have d1 := hf3.cells.2.1
    have fz := hf3.frozen 1
    have e9 := wrap_succ p (by omega)
    have HK5 := Lib.hid hk1
    have HK6 := Lib.hid hk2
    clear hf3 HY1 HY2 HY3 HK1 HK2 HS4 HD4 hk1 hk2
    have HLO := Lib.hid HS5.out.low
    have HSZ := Lib.hid HS5.out.size
    have hgz : g < ((XE.setCell ⟨g, 2, none⟩ (.slice (some ⟨og, 0, none⟩) rn c)).setCell ⟨g, 1, none⟩ (.int .i64 ((p + 1 : Nat) : Int))).heap.size := by have := HS5.out.size; omega
    have HBN : Hid (Bnd r out (p + 1)) := ⟨fun x hx => by have := HB.out.1 x (List.mem_cons_of_mem _ hx); omega, by have := HB.out.2.1; omega, by have := HB.out.2.2; simp only [List.length_cons] at this; omega⟩
    have FP := Lib.hid (put3_any g s (p + 1) r out e.dt 4 ⟨#[]⟩ none 0 0 lo2 ln2 lc2 ep (p + 1) _ HS5.out.rd hgz HD5.out HBN.out (by omega))
    clear hgz HS5 HD5
    obtain ⟨XP, hXP⟩ : ∃ X, X = (XE.setCell ⟨g, 2, none⟩ (.slice (some ⟨og, 0, none⟩) rn c)).setCell ⟨g, 1, none⟩ (.int .i64 ((p + 1 : Nat) : Int)) := ⟨_, rfl⟩
    rw [← hXP] at HK5 HK6 FP HLO HSZ
    have HXP : Hid ((XE.setCell ⟨g, 2, none⟩ (.slice (some ⟨og, 0, none⟩) rn c)).setCell ⟨g, 1, none⟩ (.int .i64 ((p : Int) + 1)) = XP) := by show _ = _; rw [hXP]; push_cast; rfl
    clear hXP
    go_upto_region 14 with fail
    rw [HXP.out]
    clear d1 fz e9
    have k1 := HK5.out
    have k2 := HK6.out
    go_wp2_with fail
    refine FP.out.mono ?_
    rintro e7 w7 ⟨rfl, hbl, hsz, D7, hD7⟩
    have HB7 := Lib.hid hbl
    have HZ7 := Lib.hid hsz
    have HD7 := Lib.hid hD7
    clear hbl hsz hD7 k1 k2
    go_wp2_with fail
    go_ret
    have hn := HN.out
    unfold RetNx
    rw [hn]
    exact ⟨rfl, HLO.out.trans HB7.out, by have h1 := HSZ.out; have h2 := HZ7.out; omega, fun _ => ⟨D7, HD7.out⟩, fun h => absurd rfl h⟩
   ·skip
    have cl := HY2.out
    go_simp
    refine hK.out _ _ trivial (fun hHeld => ?_)
    clear cl
    clear hK K
    try simp only [zt,zs,zz,Act.put,zi,zy,zx]
    refine qtk (i := 9) (v := ?v76) rfl rfl (fun w' hw' => ?h76) hHeld ?r76
    case h76 => go_simp; try with_reducible rfl
    simp only [zt,zs,zz,Act.put,zi,zy,zx]
    refine qtk (i := 10) (v := Value.int .i64 (rn : Int)) rfl rfl (fun w' hw' => ?_) hHeld ?_
    ·go_simp; rw [IntKind.wrap_i64]; omega
    simp only [zt,zs,zz,Act.put,zi,zy,zx]
    refine wpAnyH_ready (rs := [4]) (by kernel_rfl) (by simp) ?_
    refine (AllReadyH.cons rfl (fun K hK => ?_) AllReadyH.nil)
    have cl := HY2.out
    go_simp
    refine hK.out _ _ trivial (fun hHeld => ?_)
    clear cl
    clear hK K
    try simp only [zt,zs,zz,Act.put,zi,zy,zx]
    refine qts [11, 12, 13] hHeld ?_
    (refine qtc (v := Value.slice (some ⟨og, 0, none⟩) rn c) rfl rfl (fun w' hw' => ?_) ?_; (focus (go_simp; intro hq; omega)); simp only [zt,zs,zz,Act.put,zi,zy,zx])
    iterate 2 (refine qtc (v := ?_) rfl rfl (fun w' hw' => ?_) ?_; rotate_left; (focus (go_simp; try with_reducible rfl)); simp only [zt,zs,zz,Act.put,zi,zy,zx])
    refine qtn ?_
    simp only [zt,zs,zz,Act.put,zi,zy,zx,qzl,qzn,qza,Nat.reduceAdd,Nat.reduceSub]
    refine wpAnyH_ready (rs := [14]) (by kernel_rfl) (by simp) ?_
    refine (AllReadyH.cons rfl (fun K hK => ?_) AllReadyH.nil)
    have cl := HY2.out
    have cf := HY3.out
    go_simp
    refine hK.out _ _ trivial (fun hHeld => ?_)
    clear cl cf
    clear hK K
    try simp only [zt,zs,zz,Act.put,zi,zy,zx]
    refine wpAnyH_done (by kernel_rfl) ?_ _
    refine NoPanic.normal ?_
    clear hHeld
    have hk1 : ((XE.setCell ⟨g, 2, none⟩ (.slice (some ⟨og, 0, none⟩) rn c)).setCell ⟨g, 1, none⟩ (.int .i64 ((p + 1 : Nat) : Int))).cell? ⟨n4, 1, none⟩ = some (.int .i64 ep) := by
     rw [World.cell?_setCell_far _ _ _ _ (by show g ≠ n4; omega), World.cell?_setCell_far _ _ _ _ (by show g ≠ n4; omega)]; exact HK1.out
    have hk2 : ((XE.setCell ⟨g, 2, none⟩ (.slice (some ⟨og, 0, none⟩) rn c)).setCell ⟨g, 1, none⟩ (.int .i64 ((p + 1 : Nat) : Int))).cell? ⟨n4, 2, none⟩ = some (.slice lo2 ln2 lc2) := by
     rw [World.cell?_setCell_far _ _ _ _ (by show g ≠ n4; omega), World.cell?_setCell_far _ _ _ _ (by show g ≠ n4; omega)]; exact HK2.out
    have HS5 := Lib.hid (HS4.out.setP (p + 1))
    have HD5 := Lib.hid (dat_setg (o := 1) (v := .int .i64 ((p + 1 : Nat) : Int)) HS4.out.dom HD4.out)
    obtain ⟨ao3, c3, bo3, dd3, hf3⟩ := HS4.out.rd.form
    have d1 := hf3.cells.2.1
    have fz := hf3.frozen 1
    have e9 := wrap_succ p (by omega)
    have HK5 := Lib.hid hk1
    have HK6 := Lib.hid hk2
    clear hf3 HY1 HY2 HY3 HK1 HK2 HS4 HD4 hk1 hk2
    have HLO := Lib.hid HS5.out.low
    have HSZ := Lib.hid HS5.out.size
    have hgz : g < ((XE.setCell ⟨g, 2, none⟩ (.slice (some ⟨og, 0, none⟩) rn c)).setCell ⟨g, 1, none⟩ (.int .i64 ((p + 1 : Nat) : Int))).heap.size := by have := HS5.out.size; omega
    have HBN : Hid (Bnd r out (p + 1)) := ⟨fun x hx => by have := HB.out.1 x (List.mem_cons_of_mem _ hx); omega, by have := HB.out.2.1; omega, by have := HB.out.2.2; simp only [List.length_cons] at this; omega⟩
    have FP := Lib.hid (put3_any g s (p + 1) r out e.dt 4 ⟨#[]⟩ none 0 0 lo2 ln2 lc2 ep (p + 1) _ HS5.out.rd hgz HD5.out HBN.out (by omega))
    clear hgz HS5 HD5
    obtain ⟨XP, hXP⟩ : ∃ X, X = (XE.setCell ⟨g, 2, none⟩ (.slice (some ⟨og, 0, none⟩) rn c)).setCell ⟨g, 1, none⟩ (.int .i64 ((p + 1 : Nat) : Int)) := ⟨_, rfl⟩
    rw [← hXP] at HK5 HK6 FP HLO HSZ
    have HXP : Hid ((XE.setCell ⟨g, 2, none⟩ (.slice (some ⟨og, 0, none⟩) rn c)).setCell ⟨g, 1, none⟩ (.int .i64 ((p : Int) + 1)) = XP) := by show _ = _; rw [hXP]; push_cast; rfl
    clear hXP
    go_upto_region 14 with fail
    rw [HXP.out]
    clear d1 fz e9
    have k1 := HK5.out
    have k2 := HK6.out
    go_wp2_with fail
    refine FP.out.mono ?_
    rintro e7 w7 ⟨rfl, hbl, hsz, D7, hD7⟩
    have HB7 := Lib.hid hbl
    have HZ7 := Lib.hid hsz
    have HD7 := Lib.hid hD7
    clear hbl hsz hD7 k1 k2
    go_wp2_with fail
    go_ret
    have hn := HN.out
    unfold RetNx
    rw [hn]
    exact ⟨rfl, HLO.out.trans HB7.out, by have h1 := HSZ.out; have h2 := HZ7.out; omega, fun _ => ⟨D7, HD7.out⟩, fun h => absurd rfl h⟩
end Go.Proofs.Ytecljchifebljaa
