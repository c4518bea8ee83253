/- The document's reader: next: a boolean, case C3. -/
import Derived.Test.YtecljchifebljaaYAA
import Derived.Test.YtecljchifebljaaYAC
import Derived.Test.YtecljchifebljaaYAJ
set_option linter.unusedVariables false
set_option linter.unusedSimpArgs false
namespace Go.Proofs.Ytecljchifebljaa
open Go.RowKit Go.BigM
set_option maxHeartbeats 16000000 in
set_option maxRecDepth 100000 in
theorem next_hash_C3 {D : Nat → Prop} (g : Nat) (s : ByteArray) (p : Nat) (es : List En) (out : List Dt) (b : UInt8) (w : World) (h : RdAt D w.heap.size w g s p es out) (hgN : g < w.heap.size) (hp : p < s.size) (hb : s[p] = b) (hs : s.size ≤ 8000) (hB : Bnd es out p) (hbv : b = 35) (hp1 : p + 1 < s.size) (h116 : (s[p + 1]'hp1).toNat = 116) (hp2 : ¬ p + 2 < s.size) :
  Calls Try.prog 64 #[.pointer (some ⟨g, 0, none⟩)] w (RetNx g s p b es out w) := by
 obtain ⟨ao, c, bo, dd, hf⟩ := h.form
 obtain ⟨dv, hdv⟩ : ∃ v, v = Value.slice bo out.length dd := ⟨_, rfl⟩
 rw [← hdv] at hf
 have HS := Lib.hid (Stt.start h)
 have HR := Lib.hid hf
 have HB := Lib.hid hB
 have HBB := Lib.hid hb
 have hel : es.length ≤ 60 := hB.2.2
 clear h hB hdv hf hb
 have HBV := Lib.hid hbv
 have hbn : b.toNat = 35 := by rw [hbv]; rfl
 have HNE : Hid (b ≠ 40 ∧ b ≠ 39 ∧ b ≠ 41) := by show _ ∧ _; rw [hbv]; decide
 have E40 : ((b.toNat : Int) == 40) = false := by simpa using (show ¬ (b.toNat : Int) = 40 by omega)
 have E39 : ((b.toNat : Int) == 39) = false := by simpa using (show ¬ (b.toNat : Int) = 39 by omega)
 have E41 : ((b.toNat : Int) == 41) = false := by simpa using (show ¬ (b.toNat : Int) = 41 by omega)
 have E35 : ((b.toNat : Int) == 35) = true := by simpa using (show (b.toNat : Int) = 35 by omega)
 have e9 : IntKind.i64.wrap ((p : Int) + 1) = (p : Int) + 1 := by rw [IntKind.wrap_i64]; omega
 have e10 : IntKind.i64.wrap ((p : Int) + 2) = (p : Int) + 2 := by rw [IntKind.wrap_i64]; omega
 clear hbv hbn
 have q1 : decide ((s.size : Int) ≤ (p : Int) + 1) = false := decide_eq_false (by omega)
 have HCC : Hid (s[p + 1]'hp1 = 116 ∨ s[p + 1]'hp1 = 102) := .inl (u8_is _ 116 h116)
 have F116 : (((s[p + 1]'hp1).toNat : Int) == 116) = true := by rw [beq_iff_eq]; omega
 have G116 : (((s[p + 1]'hp1).toNat : Int) != 116) = false := by simp [bne, F116]
 clear h116
 have q2 : decide ((p : Int) + 2 < (s.size : Int)) = false := decide_eq_false (by omega)
 go_enter Try.func64, Try.ntmps64
 go_upto_region 1 with fail
 have HC : Hid (∀ w', Below w.heap.size w w' → w'.cell? ⟨g, 0, none⟩ = some (.string s) ∧ w'.cell? ⟨g, 1, none⟩ = some (.int .i64 (p : Int)) ∧ w'.cell? ⟨g, 2, none⟩ = some (.slice ao es.length c) ∧ w'.cell? ⟨g, 3, none⟩ = some dv) := fun w' hw' => by
  have h9 : w'.heap[g]? = some (.cells #[.string s, .int .i64 (p : Int), .slice ao es.length c, dv] 114 (0, 0)) := by rw [hw'.block g HR.out.lt]; exact HR.out
  exact Rs3.cells (p := p) h9
 have HS0 : Hid (Below w.heap.size w w.drew) := (Below.refl _ _).drew
 replace HS : Hid (Stt D g s p es out w w.drew) := HS.out.drew HR.out.lt
 replace HR : Hid (Rs3 w.drew g s p (.slice ao es.length c) dv) := HR.out
 refine wp_region_noPanic ?_
 refine wp_region_held_drew (S := Below w.heap.size w) (by kernel_rfl) HS0.out (fun hHeld => ?_)
 generalize w.drew = X1 at HS0 HS HR hHeld ⊢
 refine qts [0, 1, 2, 3, 4, 5, 6, 7, 8, 9] hHeld ?_
 iterate 8 (refine qtc (v := ?_) rfl rfl (fun w' hw' => ?_) ?_; rotate_left; (focus ((obtain ⟨d0, d1, d2, d3⟩ := HC.out w' hw'; go_simp); try with_reducible rfl)); simp only [zt,zs,zz,Act.put,zi,zy,zx])
 (refine qtc (v := Value.int .u8 ((s[p]'hp).toNat : Int)) rfl rfl (fun w' hw' => ?_) ?_; (focus (go_simp)); simp only [zt,zs,zz,Act.put,zi,zy,zx])
 (refine qtc (v := ?_) rfl rfl (fun w' hw' => ?_) ?_; rotate_left; (focus ((obtain ⟨d0, d1, d2, d3⟩ := HC.out w' hw'; go_simp); try with_reducible rfl)); simp only [zt,zs,zz,Act.put,zi,zy,zx])
 refine qtn ?_
 simp only [zt,zs,zz,Act.put,zi,zy,zx,qzl,qzn,qza,Nat.reduceAdd,Nat.reduceSub]
 refine wpAnyH_done (by kernel_rfl) ?_ _
 refine NoPanic.normal ?_
 clear hHeld
 clear HC HS0
 rw [HBB.out]
 have HN : Hid (nxt s p b es out = (0, p + 2, (putS (.mk 2 ⟨#[35, s[p + 1]'hp1]⟩ [] [] p) es out).1, (putS (.mk 2 ⟨#[35, s[p + 1]'hp1]⟩ [] [] p) es out).2)) := by
  show _ = _
  rw [nxt_tok HNE.out.1 HNE.out.2.1 HNE.out.2.2 (by rw [hash_b hp (by rw [HBB.out]; exact HBV.out) hp1, if_pos ⟨HCC.out, row0_end hp2⟩])]
 go_upto_region 16 with fail
 have HC : Hid (∀ w', Below X1.heap.size X1 w' → w'.cell? ⟨g, 0, none⟩ = some (.string s) ∧ w'.cell? ⟨g, 1, none⟩ = some (.int .i64 (p : Int)) ∧ w'.cell? ⟨g, 2, none⟩ = some (.slice ao es.length c) ∧ w'.cell? ⟨g, 3, none⟩ = some dv) := fun w' hw' => by
  have h9 : w'.heap[g]? = some (.cells #[.string s, .int .i64 (p : Int), .slice ao es.length c, dv] 114 (0, 0)) := by rw [hw'.block g HR.out.lt]; exact HR.out
  exact Rs3.cells (p := p) h9
 have HS0 : Hid (Below X1.heap.size X1 X1.drew) := (Below.refl _ _).drew
 replace HS : Hid (Stt D g s p es out w X1.drew) := HS.out.drew HR.out.lt
 replace HR : Hid (Rs3 X1.drew g s p (.slice ao es.length c) dv) := HR.out
 refine wp_region_noPanic ?_
 refine wp_region_held_drew (S := Below X1.heap.size X1) (by kernel_rfl) HS0.out (fun hHeld => ?_)
 generalize X1.drew = X2 at HS0 HS HR hHeld ⊢
 refine qts [0, 1, 2, 3, 4, 5, 6, 7, 8, 9, 10, 11, 12, 13, 14, 15, 16, 17, 18, 19, 20, 21, 22, 23, 24, 25, 26, 27, 28, 29, 30, 31, 32, 33, 34, 35, 36, 37, 38, 39, 40, 41, 42, 43, 44, 45, 46, 47, 48, 49, 50, 51, 52, 53, 54, 55, 56, 57, 58, 59, 60, 61, 62] hHeld ?_
 iterate 4 (refine qtc (v := ?_) rfl rfl (fun w' hw' => ?_) ?_; rotate_left; (focus ((obtain ⟨d0, d1, d2, d3⟩ := HC.out w' hw'; go_simp); try with_reducible rfl)); simp only [zt,zs,zz,Act.put,zi,zy,zx])
 (refine qtc (v := Value.int .i64 ((p : Int) + 1)) rfl rfl (fun w' hw' => ?_) ?_; (focus (go_simp; try omega)); simp only [zt,zs,zz,Act.put,zi,zy,zx])
 iterate 5 (refine qtc (v := ?_) rfl rfl (fun w' hw' => ?_) ?_; rotate_left; (focus ((obtain ⟨d0, d1, d2, d3⟩ := HC.out w' hw'; go_simp); try with_reducible rfl)); simp only [zt,zs,zz,Act.put,zi,zy,zx])
 iterate 2 (refine qtc (v := Value.bool false) rfl rfl (fun w' hw' => ?_) ?_; (focus (go_simp; try omega)); simp only [zt,zs,zz,Act.put,zi,zy,zx])
 iterate 8 (refine qtc (v := ?_) rfl rfl (fun w' hw' => ?_) ?_; rotate_left; (focus ((obtain ⟨d0, d1, d2, d3⟩ := HC.out w' hw'; go_simp); try with_reducible rfl)); simp only [zt,zs,zz,Act.put,zi,zy,zx])
 (refine qtc (v := Value.int .i64 ((p : Int) + 1)) rfl rfl (fun w' hw' => ?_) ?_; (focus (go_simp; try omega)); simp only [zt,zs,zz,Act.put,zi,zy,zx])
 (refine qtc (v := Value.int .u8 ((s[p + 1]'hp1).toNat : Int)) rfl rfl (fun w' hw' => ?_) ?_; (focus (go_simp; rw [dif_pos (by omega)]; rfl)); simp only [zt,zs,zz,Act.put,zi,zy,zx])
 iterate 2 (refine qtc (v := Value.bool false) rfl rfl (fun w' hw' => ?_) ?_; (focus (go_simp; try omega)); simp only [zt,zs,zz,Act.put,zi,zy,zx])
 iterate 11 (refine qtz rfl rfl ?_; simp only [zt,zs,zz,Act.put,zi,zy,zx])
 iterate 3 (refine qtc (v := Value.bool false) rfl rfl (fun w' hw' => ?_) ?_; (focus (go_simp; try omega)); simp only [zt,zs,zz,Act.put,zi,zy,zx])
 iterate 4 (refine qtc (v := ?_) rfl rfl (fun w' hw' => ?_) ?_; rotate_left; (focus ((obtain ⟨d0, d1, d2, d3⟩ := HC.out w' hw'; go_simp); try with_reducible rfl)); simp only [zt,zs,zz,Act.put,zi,zy,zx])
 (refine qtc (v := Value.int .i64 ((p : Int) + 2)) rfl rfl (fun w' hw' => ?_) ?_; (focus (go_simp; try omega)); simp only [zt,zs,zz,Act.put,zi,zy,zx])
 iterate 5 (refine qtc (v := ?_) rfl rfl (fun w' hw' => ?_) ?_; rotate_left; (focus ((obtain ⟨d0, d1, d2, d3⟩ := HC.out w' hw'; go_simp); try with_reducible rfl)); simp only [zt,zs,zz,Act.put,zi,zy,zx])
 iterate 2 (refine qtc (v := Value.bool false) rfl rfl (fun w' hw' => ?_) ?_; (focus (go_simp; try omega)); simp only [zt,zs,zz,Act.put,zi,zy,zx])
 iterate 11 (refine qtz rfl rfl ?_; simp only [zt,zs,zz,Act.put,zi,zy,zx])
 iterate 2 (refine qtc (v := Value.bool false) rfl rfl (fun w' hw' => ?_) ?_; (focus (go_simp; try omega)); simp only [zt,zs,zz,Act.put,zi,zy,zx])
 refine qtn ?_
 simp only [zt,zs,zz,Act.put,zi,zy,zx,qzl,qzn,qza,Nat.reduceAdd,Nat.reduceSub]
 refine wpAnyH_done (by kernel_rfl) ?_ _
 refine NoPanic.normal ?_
 clear hHeld
 clear HC HS0
 go_upto_region 18 with fail
 obtain ⟨pp, hpp⟩ : ∃ pp, pp = p + 2 := ⟨_, rfl⟩
 have e11 : IntKind.i64.wrap ((p : Int) + 2) = (pp : Int) := by rw [hpp, e10]; omega
 have hpps : pp ≤ s.size := by omega
 have hppp : p ≤ pp := by omega
 clear e10
 have hgx : g < X2.drew.heap.size := HR.out.lt
 have FP := Lib.hid (put3_any g s p es out (.mk 2 ⟨#[35, s[p + 1]'hp1]⟩ [] [] p) 2 ⟨#[35, s[p + 1]'hp1]⟩ none 0 0 none 0 0 p p X2.drew (HS.out.drew HR.out.lt).rd hgx (by rw [At_mk]; exact ⟨_, _, rfl, .inl ⟨rfl, rfl⟩, .inl ⟨rfl, rfl⟩⟩) HB.out (by omega))
 have HCT : Hid (s.extract p pp = ⟨#[35, s[p + 1]'hp1]⟩) := by rw [hpp]; exact cut_two hp (by rw [HBB.out]; exact HBV.out) hp1
 have HN : Hid (nxt s p b es out = (0, pp, (putS (.mk 2 ⟨#[35, s[p + 1]'hp1]⟩ [] [] p) es out).1, (putS (.mk 2 ⟨#[35, s[p + 1]'hp1]⟩ [] [] p) es out).2)) := by rw [hpp]; exact HN.out
 clear hgx hpp
 have HC : Hid (∀ w', Below X2.heap.size X2 w' → w'.cell? ⟨g, 0, none⟩ = some (.string s) ∧ w'.cell? ⟨g, 1, none⟩ = some (.int .i64 (p : Int)) ∧ w'.cell? ⟨g, 2, none⟩ = some (.slice ao es.length c) ∧ w'.cell? ⟨g, 3, none⟩ = some dv) := fun w' hw' => by
  have h9 : w'.heap[g]? = some (.cells #[.string s, .int .i64 (p : Int), .slice ao es.length c, dv] 114 (0, 0)) := by rw [hw'.block g HR.out.lt]; exact HR.out
  exact Rs3.cells (p := p) h9
 have HS0 : Hid (Below X2.heap.size X2 X2.drew) := (Below.refl _ _).drew
 replace HS : Hid (Stt D g s p es out w X2.drew) := HS.out.drew HR.out.lt
 replace HR : Hid (Rs3 X2.drew g s p (.slice ao es.length c) dv) := HR.out
 refine wp_region_noPanic ?_
 refine wp_region_late (S := Below X2.heap.size X2) (fun i => i == 20) (by kernel_rfl) HS0.out (fun hHeld => ?_)
 generalize X2.drew = X3 at HS0 HS HR FP hHeld ⊢
 refine qtl [0, 1, 2, 3, 4, 5, 6, 7, 8, 9, 10, 11, 12, 13, 14] hHeld ?_
 iterate 13 (refine qtc (v := ?_) rfl rfl (fun w' hw' => ?_) ?_; rotate_left; (focus ((obtain ⟨d0, d1, d2, d3⟩ := HC.out w' hw'; go_simp); try with_reducible rfl)); simp only [zt,zs,zz,Act.put,zi,zy,zx])
 (refine qtc (v := Value.int .i64 (pp : Int)) rfl rfl (fun w' hw' => ?_) ?_; (focus (go_simp)); simp only [zt,zs,zz,Act.put,zi,zy,zx])
 (refine qtc (v := Value.string (s.extract p pp)) rfl rfl (fun w' hw' => ?_) ?_; (focus (go_simp; try omega)); simp only [zt,zs,zz,Act.put,zi,zy,zx])
 refine qtn ?_
 simp only [zt,zs,zz,Act.put,zi,zy,zx,qzl,qzn,qza,Nat.reduceAdd,Nat.reduceSub]
 rw [HCT.out]
 refine qtl [15, 16, 17, 18, 19] hHeld ?_
 iterate 5 (refine qtc (v := ?_) rfl rfl (fun w' hw' => ?_) ?_; rotate_left; (focus ((obtain ⟨d0, d1, d2, d3⟩ := HC.out w' hw'; go_simp); try with_reducible rfl)); simp only [zt,zs,zz,Act.put,zi,zy,zx])
 refine qtn ?_
 simp only [zt,zs,zz,Act.put,zi,zy,zx,qzl,qzn,qza,Nat.reduceAdd,Nat.reduceSub]
 refine wpAnyL_ready (rs := [20]) (by kernel_rfl) (by simp) ?_
 refine (AllL.last (S2 := fun _ => True) rfl rfl (fun K hK => ?_) AllL.nil)
 go_simp
 refine FP.out.mono ?_
 rintro e7 w7 ⟨rfl, hbl, hsz, D7, hD7⟩
 have HB7 := Lib.hid hbl
 have HZ7 := Lib.hid hsz
 have HD7 := Lib.hid hD7
 clear hbl hsz hD7
 refine hK.out _ _ trivial (fun hHeld => ?_)
 clear hK K
 try simp only [zt,zs,zz,Act.put,zi,zy,zx]
 refine wpAnyH_done (by kernel_rfl) ?_ _
 refine NoPanic.normal ?_
 clear hHeld
 clear HC HS0
 have HLO : Hid (Below g w w7) := HS.out.low.trans HB7.out
 have HSZ : Hid (w.heap.size ≤ w7.heap.size) := by have h1 := HS.out.size; have h2 := HZ7.out; show _ ≤ _; omega
 obtain ⟨ao3, c3, bo3, dd3, hf3⟩ := HD7.out.form
 have d1 := hf3.cells.2.1
 have fz := hf3.frozen 1
 have HRD := Lib.hid (HD7.out.setP pp)
 have HL1 : Hid (Below g w (w7.setCell ⟨g, 1, none⟩ (.int .i64 (pp : Int)))) := HLO.out.setCell (p := ⟨g, 1, none⟩) (Nat.le_refl _) _
 have hz : (w7.setCell ⟨g, 1, none⟩ (.int .i64 (pp : Int))).heap.size = w7.heap.size := by simp [World.setCell]
 have HZ1 := Lib.hid hz
 clear hf3 hz HD7 FP HS HR
 go_wp2_with fail
 go_ret
 have hn := HN.out
 unfold RetNx
 rw [hn]
 exact ⟨rfl, HL1.out, by rw [HZ1.out]; exact HSZ.out, fun _ => ⟨D7, by rw [HZ1.out]; exact HRD.out⟩, fun h => absurd rfl h⟩
end Go.Proofs.Ytecljchifebljaa
namespace Go.Proofs.Ytecljchifebljaa
open Go.RowKit Go.BigM
set_option maxHeartbeats 16000000 in
set_option maxRecDepth 100000 in
theorem next_hash_D1 {D : Nat → Prop} (g : Nat) (s : ByteArray) (p : Nat) (es : List En) (out : List Dt) (b : UInt8) (w : World) (h : RdAt D w.heap.size w g s p es out) (hgN : g < w.heap.size) (hp : p < s.size) (hb : s[p] = b) (hs : s.size ≤ 8000) (hB : Bnd es out p) (hbv : b = 35) (hp1 : p + 1 < s.size) (h116 : ¬ (s[p + 1]'hp1).toNat = 116) (h102 : (s[p + 1]'hp1).toNat = 102) (hp2 : p + 2 < s.size) (hsg : sset.contains (s[p + 2]'hp2) = true) :
  Calls Try.prog 64 #[.pointer (some ⟨g, 0, none⟩)] w (RetNx g s p b es out w) := by
 obtain ⟨ao, c, bo, dd, hf⟩ := h.form
 obtain ⟨dv, hdv⟩ : ∃ v, v = Value.slice bo out.length dd := ⟨_, rfl⟩
 rw [← hdv] at hf
 have HS := Lib.hid (Stt.start h)
 have HR := Lib.hid hf
 have HB := Lib.hid hB
 have HBB := Lib.hid hb
 have hel : es.length ≤ 60 := hB.2.2
 clear h hB hdv hf hb
 have HBV := Lib.hid hbv
 have hbn : b.toNat = 35 := by rw [hbv]; rfl
 have HNE : Hid (b ≠ 40 ∧ b ≠ 39 ∧ b ≠ 41) := by show _ ∧ _; rw [hbv]; decide
 have E40 : ((b.toNat : Int) == 40) = false := by simpa using (show ¬ (b.toNat : Int) = 40 by omega)
 have E39 : ((b.toNat : Int) == 39) = false := by simpa using (show ¬ (b.toNat : Int) = 39 by omega)
 have E41 : ((b.toNat : Int) == 41) = false := by simpa using (show ¬ (b.toNat : Int) = 41 by omega)
 have E35 : ((b.toNat : Int) == 35) = true := by simpa using (show (b.toNat : Int) = 35 by omega)
 have e9 : IntKind.i64.wrap ((p : Int) + 1) = (p : Int) + 1 := by rw [IntKind.wrap_i64]; omega
 have e10 : IntKind.i64.wrap ((p : Int) + 2) = (p : Int) + 2 := by rw [IntKind.wrap_i64]; omega
 clear hbv hbn
 have q1 : decide ((s.size : Int) ≤ (p : Int) + 1) = false := decide_eq_false (by omega)
 have HCC : Hid (s[p + 1]'hp1 = 116 ∨ s[p + 1]'hp1 = 102) := .inr (u8_is _ 102 h102)
 have F116 : (((s[p + 1]'hp1).toNat : Int) == 116) = false := by rw [beq_eq_false_iff_ne]; omega
 have G116 : (((s[p + 1]'hp1).toNat : Int) != 116) = true := by simp [bne, F116]
 have F102 : (((s[p + 1]'hp1).toNat : Int) == 102) = true := by rw [beq_iff_eq]; omega
 have G102 : (((s[p + 1]'hp1).toNat : Int) != 102) = false := by simp [bne, F102]
 clear h116 h102
 have q2 : decide ((p : Int) + 2 < (s.size : Int)) = true := decide_eq_true (by omega)
 have HSG := Lib.hid hsg
 go_enter Try.func64, Try.ntmps64
 go_upto_region 1 with fail
 have HC : Hid (∀ w', Below w.heap.size w w' → w'.cell? ⟨g, 0, none⟩ = some (.string s) ∧ w'.cell? ⟨g, 1, none⟩ = some (.int .i64 (p : Int)) ∧ w'.cell? ⟨g, 2, none⟩ = some (.slice ao es.length c) ∧ w'.cell? ⟨g, 3, none⟩ = some dv) := fun w' hw' => by
  have h9 : w'.heap[g]? = some (.cells #[.string s, .int .i64 (p : Int), .slice ao es.length c, dv] 114 (0, 0)) := by rw [hw'.block g HR.out.lt]; exact HR.out
  exact Rs3.cells (p := p) h9
 have HS0 : Hid (Below w.heap.size w w.drew) := (Below.refl _ _).drew
 replace HS : Hid (Stt D g s p es out w w.drew) := HS.out.drew HR.out.lt
 replace HR : Hid (Rs3 w.drew g s p (.slice ao es.length c) dv) := HR.out
 refine wp_region_noPanic ?_
 refine wp_region_held_drew (S := Below w.heap.size w) (by kernel_rfl) HS0.out (fun hHeld => ?_)
 generalize w.drew = X1 at HS0 HS HR hHeld ⊢
 refine qts [0, 1, 2, 3, 4, 5, 6, 7, 8, 9] hHeld ?_
 iterate 8 (refine qtc (v := ?_) rfl rfl (fun w' hw' => ?_) ?_; rotate_left; (focus ((obtain ⟨d0, d1, d2, d3⟩ := HC.out w' hw'; go_simp); try with_reducible rfl)); simp only [zt,zs,zz,Act.put,zi,zy,zx])
 (refine qtc (v := Value.int .u8 ((s[p]'hp).toNat : Int)) rfl rfl (fun w' hw' => ?_) ?_; (focus (go_simp)); simp only [zt,zs,zz,Act.put,zi,zy,zx])
 (refine qtc (v := ?_) rfl rfl (fun w' hw' => ?_) ?_; rotate_left; (focus ((obtain ⟨d0, d1, d2, d3⟩ := HC.out w' hw'; go_simp); try with_reducible rfl)); simp only [zt,zs,zz,Act.put,zi,zy,zx])
 refine qtn ?_
 simp only [zt,zs,zz,Act.put,zi,zy,zx,qzl,qzn,qza,Nat.reduceAdd,Nat.reduceSub]
 refine wpAnyH_done (by kernel_rfl) ?_ _
 refine NoPanic.normal ?_
 clear hHeld
 clear HC HS0
 rw [HBB.out]
 have HN : Hid (nxt s p b es out = (3, p, es, out)) := by
  show _ = _
  rw [nxt_tok HNE.out.1 HNE.out.2.1 HNE.out.2.2 (by rw [hash_b hp (by rw [HBB.out]; exact HBV.out) hp1, if_neg (fun h => by have h1 := row_pos hp2 HSG.out; have h2 := h.2; omega)])]
 go_upto_region 16 with fail
 have HC : Hid (∀ w', Below X1.heap.size X1 w' → w'.cell? ⟨g, 0, none⟩ = some (.string s) ∧ w'.cell? ⟨g, 1, none⟩ = some (.int .i64 (p : Int)) ∧ w'.cell? ⟨g, 2, none⟩ = some (.slice ao es.length c) ∧ w'.cell? ⟨g, 3, none⟩ = some dv) := fun w' hw' => by
  have h9 : w'.heap[g]? = some (.cells #[.string s, .int .i64 (p : Int), .slice ao es.length c, dv] 114 (0, 0)) := by rw [hw'.block g HR.out.lt]; exact HR.out
  exact Rs3.cells (p := p) h9
 have HS0 : Hid (Below X1.heap.size X1 X1.drew) := (Below.refl _ _).drew
 replace HS : Hid (Stt D g s p es out w X1.drew) := HS.out.drew HR.out.lt
 replace HR : Hid (Rs3 X1.drew g s p (.slice ao es.length c) dv) := HR.out
 refine wp_region_noPanic ?_
 refine wp_region_held_drew (S := Below X1.heap.size X1) (by kernel_rfl) HS0.out (fun hHeld => ?_)
 generalize X1.drew = X2 at HS0 HS HR hHeld ⊢
 refine qts [0, 1, 2, 3, 4, 5, 6, 7, 8, 9, 10, 11, 12, 13, 14, 15, 16, 17, 18, 19, 20, 21, 22, 23, 24, 25, 26, 27, 28, 29, 30, 31, 32, 33, 34, 35, 36, 37, 38, 39, 40, 41, 42, 43, 44, 45, 46, 47, 48, 49, 50, 51, 52, 53, 54, 55, 56, 57, 58, 59] hHeld ?_
 iterate 4 (refine qtc (v := ?_) rfl rfl (fun w' hw' => ?_) ?_; rotate_left; (focus ((obtain ⟨d0, d1, d2, d3⟩ := HC.out w' hw'; go_simp); try with_reducible rfl)); simp only [zt,zs,zz,Act.put,zi,zy,zx])
 (refine qtc (v := Value.int .i64 ((p : Int) + 1)) rfl rfl (fun w' hw' => ?_) ?_; (focus (go_simp; try omega)); simp only [zt,zs,zz,Act.put,zi,zy,zx])
 iterate 5 (refine qtc (v := ?_) rfl rfl (fun w' hw' => ?_) ?_; rotate_left; (focus ((obtain ⟨d0, d1, d2, d3⟩ := HC.out w' hw'; go_simp); try with_reducible rfl)); simp only [zt,zs,zz,Act.put,zi,zy,zx])
 iterate 2 (refine qtc (v := Value.bool false) rfl rfl (fun w' hw' => ?_) ?_; (focus (go_simp; try omega)); simp only [zt,zs,zz,Act.put,zi,zy,zx])
 iterate 8 (refine qtc (v := ?_) rfl rfl (fun w' hw' => ?_) ?_; rotate_left; (focus ((obtain ⟨d0, d1, d2, d3⟩ := HC.out w' hw'; go_simp); try with_reducible rfl)); simp only [zt,zs,zz,Act.put,zi,zy,zx])
 (refine qtc (v := Value.int .i64 ((p : Int) + 1)) rfl rfl (fun w' hw' => ?_) ?_; (focus (go_simp; try omega)); simp only [zt,zs,zz,Act.put,zi,zy,zx])
 (refine qtc (v := Value.int .u8 ((s[p + 1]'hp1).toNat : Int)) rfl rfl (fun w' hw' => ?_) ?_; (focus (go_simp; rw [dif_pos (by omega)]; rfl)); simp only [zt,zs,zz,Act.put,zi,zy,zx])
 iterate 2 (refine qtc (v := Value.bool true) rfl rfl (fun w' hw' => ?_) ?_; (focus (go_simp; try omega)); simp only [zt,zs,zz,Act.put,zi,zy,zx])
 iterate 8 (refine qtc (v := ?_) rfl rfl (fun w' hw' => ?_) ?_; rotate_left; (focus ((obtain ⟨d0, d1, d2, d3⟩ := HC.out w' hw'; go_simp); try with_reducible rfl)); simp only [zt,zs,zz,Act.put,zi,zy,zx])
 (refine qtc (v := Value.int .i64 ((p : Int) + 1)) rfl rfl (fun w' hw' => ?_) ?_; (focus (go_simp; try omega)); simp only [zt,zs,zz,Act.put,zi,zy,zx])
 (refine qtc (v := Value.int .u8 ((s[p + 1]'hp1).toNat : Int)) rfl rfl (fun w' hw' => ?_) ?_; (focus (go_simp; rw [dif_pos (by omega)]; rfl)); simp only [zt,zs,zz,Act.put,zi,zy,zx])
 iterate 4 (refine qtc (v := Value.bool false) rfl rfl (fun w' hw' => ?_) ?_; (focus (go_simp; try omega)); simp only [zt,zs,zz,Act.put,zi,zy,zx])
 iterate 4 (refine qtc (v := ?_) rfl rfl (fun w' hw' => ?_) ?_; rotate_left; (focus ((obtain ⟨d0, d1, d2, d3⟩ := HC.out w' hw'; go_simp); try with_reducible rfl)); simp only [zt,zs,zz,Act.put,zi,zy,zx])
 (refine qtc (v := Value.int .i64 ((p : Int) + 2)) rfl rfl (fun w' hw' => ?_) ?_; (focus (go_simp; try omega)); simp only [zt,zs,zz,Act.put,zi,zy,zx])
 iterate 5 (refine qtc (v := ?_) rfl rfl (fun w' hw' => ?_) ?_; rotate_left; (focus ((obtain ⟨d0, d1, d2, d3⟩ := HC.out w' hw'; go_simp); try with_reducible rfl)); simp only [zt,zs,zz,Act.put,zi,zy,zx])
 iterate 2 (refine qtc (v := Value.bool true) rfl rfl (fun w' hw' => ?_) ?_; (focus (go_simp; try omega)); simp only [zt,zs,zz,Act.put,zi,zy,zx])
 iterate 8 (refine qtc (v := ?_) rfl rfl (fun w' hw' => ?_) ?_; rotate_left; (focus ((obtain ⟨d0, d1, d2, d3⟩ := HC.out w' hw'; go_simp); try with_reducible rfl)); simp only [zt,zs,zz,Act.put,zi,zy,zx])
 (refine qtc (v := Value.int .i64 ((p : Int) + 2)) rfl rfl (fun w' hw' => ?_) ?_; (focus (go_simp; try omega)); simp only [zt,zs,zz,Act.put,zi,zy,zx])
 (refine qtc (v := Value.int .u8 ((s[p + 2]'hp2).toNat : Int)) rfl rfl (fun w' hw' => ?_) ?_; (focus (go_simp; rw [dif_pos (by omega)]; have e : ((p : Int) + 2).toNat = p + 2 := (by omega); simp only [e]; rfl)); simp only [zt,zs,zz,Act.put,zi,zy,zx])
 refine qtn ?_
 simp only [zt,zs,zz,Act.put,zi,zy,zx,qzl,qzn,qza,Nat.reduceAdd,Nat.reduceSub]
 refine wpAnyH_ready (rs := [60]) (by kernel_rfl) (by simp) ?_
 refine (AllReadyH.cons rfl (fun K hK => ?_) AllReadyH.nil)
 go_simp
 refine (sign_any _ _).mono ?_
 rintro e w' ⟨rfl, rfl⟩
 simp only [hsg]
 refine hK.out _ _ hHeld (fun hHeld => ?_)
 clear hK K
 try simp only [zt,zs,zz,Act.put,zi,zy,zx]
 refine qtk (i := 61) (v := Value.bool true) rfl rfl (fun w' hw' => ?_) hHeld ?_
 ·go_simp; try omega
 simp only [zt,zs,zz,Act.put,zi,zy,zx]
 refine qtk (i := 62) (v := Value.bool true) rfl rfl (fun w' hw' => ?_) hHeld ?_
 ·go_simp; try omega
 simp only [zt,zs,zz,Act.put,zi,zy,zx]
 refine wpAnyH_done (by kernel_rfl) ?_ _
 refine NoPanic.normal ?_
 clear hHeld
 clear HC HS0
 go_wp2_with fail
 go_ret
 have hn := HN.out
 unfold RetNx
 rw [hn]
 exact ⟨rfl, HS.out.low, HS.out.size, fun h => absurd h (by simp), fun _ => ⟨_, _, HR.out⟩⟩
end Go.Proofs.Ytecljchifebljaa
namespace Go.Proofs.Ytecljchifebljaa
open Go.RowKit Go.BigM
set_option maxHeartbeats 16000000 in
set_option maxRecDepth 100000 in
theorem next_hash_D2 {D : Nat → Prop} (g : Nat) (s : ByteArray) (p : Nat) (es : List En) (out : List Dt) (b : UInt8) (w : World) (h : RdAt D w.heap.size w g s p es out) (hgN : g < w.heap.size) (hp : p < s.size) (hb : s[p] = b) (hs : s.size ≤ 8000) (hB : Bnd es out p) (hbv : b = 35) (hp1 : p + 1 < s.size) (h116 : ¬ (s[p + 1]'hp1).toNat = 116) (h102 : (s[p + 1]'hp1).toNat = 102) (hp2 : p + 2 < s.size) (hsg : sset.contains (s[p + 2]'hp2) = false) :
  Calls Try.prog 64 #[.pointer (some ⟨g, 0, none⟩)] w (RetNx g s p b es out w) := by
 obtain ⟨ao, c, bo, dd, hf⟩ := h.form
 obtain ⟨dv, hdv⟩ : ∃ v, v = Value.slice bo out.length dd := ⟨_, rfl⟩
 rw [← hdv] at hf
 have HS := Lib.hid (Stt.start h)
 have HR := Lib.hid hf
 have HB := Lib.hid hB
 have HBB := Lib.hid hb
 have hel : es.length ≤ 60 := hB.2.2
 clear h hB hdv hf hb
 have HBV := Lib.hid hbv
 have hbn : b.toNat = 35 := by rw [hbv]; rfl
 have HNE : Hid (b ≠ 40 ∧ b ≠ 39 ∧ b ≠ 41) := by show _ ∧ _; rw [hbv]; decide
 have E40 : ((b.toNat : Int) == 40) = false := by simpa using (show ¬ (b.toNat : Int) = 40 by omega)
 have E39 : ((b.toNat : Int) == 39) = false := by simpa using (show ¬ (b.toNat : Int) = 39 by omega)
 have E41 : ((b.toNat : Int) == 41) = false := by simpa using (show ¬ (b.toNat : Int) = 41 by omega)
 have E35 : ((b.toNat : Int) == 35) = true := by simpa using (show (b.toNat : Int) = 35 by omega)
 have e9 : IntKind.i64.wrap ((p : Int) + 1) = (p : Int) + 1 := by rw [IntKind.wrap_i64]; omega
 have e10 : IntKind.i64.wrap ((p : Int) + 2) = (p : Int) + 2 := by rw [IntKind.wrap_i64]; omega
 clear hbv hbn
 have q1 : decide ((s.size : Int) ≤ (p : Int) + 1) = false := decide_eq_false (by omega)
 have HCC : Hid (s[p + 1]'hp1 = 116 ∨ s[p + 1]'hp1 = 102) := .inr (u8_is _ 102 h102)
 have F116 : (((s[p + 1]'hp1).toNat : Int) == 116) = false := by rw [beq_eq_false_iff_ne]; omega
 have G116 : (((s[p + 1]'hp1).toNat : Int) != 116) = true := by simp [bne, F116]
 have F102 : (((s[p + 1]'hp1).toNat : Int) == 102) = true := by rw [beq_iff_eq]; omega
 have G102 : (((s[p + 1]'hp1).toNat : Int) != 102) = false := by simp [bne, F102]
 clear h116 h102
 have q2 : decide ((p : Int) + 2 < (s.size : Int)) = true := decide_eq_true (by omega)
 have HSG := Lib.hid hsg
 go_enter Try.func64, Try.ntmps64
 go_upto_region 1 with fail
 have HC : Hid (∀ w', Below w.heap.size w w' → w'.cell? ⟨g, 0, none⟩ = some (.string s) ∧ w'.cell? ⟨g, 1, none⟩ = some (.int .i64 (p : Int)) ∧ w'.cell? ⟨g, 2, none⟩ = some (.slice ao es.length c) ∧ w'.cell? ⟨g, 3, none⟩ = some dv) := fun w' hw' => by
  have h9 : w'.heap[g]? = some (.cells #[.string s, .int .i64 (p : Int), .slice ao es.length c, dv] 114 (0, 0)) := by rw [hw'.block g HR.out.lt]; exact HR.out
  exact Rs3.cells (p := p) h9
 have HS0 : Hid (Below w.heap.size w w.drew) := (Below.refl _ _).drew
 replace HS : Hid (Stt D g s p es out w w.drew) := HS.out.drew HR.out.lt
 replace HR : Hid (Rs3 w.drew g s p (.slice ao es.length c) dv) := HR.out
 refine wp_region_noPanic ?_
 refine wp_region_held_drew (S := Below w.heap.size w) (by kernel_rfl) HS0.out (fun hHeld => ?_)
 generalize w.drew = X1 at HS0 HS HR hHeld ⊢
 refine qts [0, 1, 2, 3, 4, 5, 6, 7, 8, 9] hHeld ?_
 iterate 8 (refine qtc (v := ?_) rfl rfl (fun w' hw' => ?_) ?_; rotate_left; (focus ((obtain ⟨d0, d1, d2, d3⟩ := HC.out w' hw'; go_simp); try with_reducible rfl)); simp only [zt,zs,zz,Act.put,zi,zy,zx])
 (refine qtc (v := Value.int .u8 ((s[p]'hp).toNat : Int)) rfl rfl (fun w' hw' => ?_) ?_; (focus (go_simp)); simp only [zt,zs,zz,Act.put,zi,zy,zx])
 (refine qtc (v := ?_) rfl rfl (fun w' hw' => ?_) ?_; rotate_left; (focus ((obtain ⟨d0, d1, d2, d3⟩ := HC.out w' hw'; go_simp); try with_reducible rfl)); simp only [zt,zs,zz,Act.put,zi,zy,zx])
 refine qtn ?_
 simp only [zt,zs,zz,Act.put,zi,zy,zx,qzl,qzn,qza,Nat.reduceAdd,Nat.reduceSub]
 refine wpAnyH_done (by kernel_rfl) ?_ _
 refine NoPanic.normal ?_
 clear hHeld
 clear HC HS0
 rw [HBB.out]
 have HN : Hid (nxt s p b es out = (0, p + 2, (putS (.mk 2 ⟨#[35, s[p + 1]'hp1]⟩ [] [] p) es out).1, (putS (.mk 2 ⟨#[35, s[p + 1]'hp1]⟩ [] [] p) es out).2)) := by
  show _ = _
  rw [nxt_tok HNE.out.1 HNE.out.2.1 HNE.out.2.2 (by rw [hash_b hp (by rw [HBB.out]; exact HBV.out) hp1, if_pos ⟨HCC.out, row0_no hp2 HSG.out⟩])]
 go_upto_region 16 with fail
 have HC : Hid (∀ w', Below X1.heap.size X1 w' → w'.cell? ⟨g, 0, none⟩ = some (.string s) ∧ w'.cell? ⟨g, 1, none⟩ = some (.int .i64 (p : Int)) ∧ w'.cell? ⟨g, 2, none⟩ = some (.slice ao es.length c) ∧ w'.cell? ⟨g, 3, none⟩ = some dv) := fun w' hw' => by
  have h9 : w'.heap[g]? = some (.cells #[.string s, .int .i64 (p : Int), .slice ao es.length c, dv] 114 (0, 0)) := by rw [hw'.block g HR.out.lt]; exact HR.out
  exact Rs3.cells (p := p) h9
 have HS0 : Hid (Below X1.heap.size X1 X1.drew) := (Below.refl _ _).drew
 replace HS : Hid (Stt D g s p es out w X1.drew) := HS.out.drew HR.out.lt
 replace HR : Hid (Rs3 X1.drew g s p (.slice ao es.length c) dv) := HR.out
 refine wp_region_noPanic ?_
 refine wp_region_held_drew (S := Below X1.heap.size X1) (by kernel_rfl) HS0.out (fun hHeld => ?_)
 generalize X1.drew = X2 at HS0 HS HR hHeld ⊢
 refine qts [0, 1, 2, 3, 4, 5, 6, 7, 8, 9, 10, 11, 12, 13, 14, 15, 16, 17, 18, 19, 20, 21, 22, 23, 24, 25, 26, 27, 28, 29, 30, 31, 32, 33, 34, 35, 36, 37, 38, 39, 40, 41, 42, 43, 44, 45, 46, 47, 48, 49, 50, 51, 52, 53, 54, 55, 56, 57, 58, 59] hHeld ?_
 iterate 4 (refine qtc (v := ?_) rfl rfl (fun w' hw' => ?_) ?_; rotate_left; (focus ((obtain ⟨d0, d1, d2, d3⟩ := HC.out w' hw'; go_simp); try with_reducible rfl)); simp only [zt,zs,zz,Act.put,zi,zy,zx])
 (refine qtc (v := Value.int .i64 ((p : Int) + 1)) rfl rfl (fun w' hw' => ?_) ?_; (focus (go_simp; try omega)); simp only [zt,zs,zz,Act.put,zi,zy,zx])
 iterate 5 (refine qtc (v := ?_) rfl rfl (fun w' hw' => ?_) ?_; rotate_left; (focus ((obtain ⟨d0, d1, d2, d3⟩ := HC.out w' hw'; go_simp); try with_reducible rfl)); simp only [zt,zs,zz,Act.put,zi,zy,zx])
 iterate 2 (refine qtc (v := Value.bool false) rfl rfl (fun w' hw' => ?_) ?_; (focus (go_simp; try omega)); simp only [zt,zs,zz,Act.put,zi,zy,zx])
 iterate 8 (refine qtc (v := ?_) rfl rfl (fun w' hw' => ?_) ?_; rotate_left; (focus ((obtain ⟨d0, d1, d2, d3⟩ := HC.out w' hw'; go_simp); try with_reducible rfl)); simp only [zt,zs,zz,Act.put,zi,zy,zx])
 (refine qtc (v := Value.int .i64 ((p : Int) + 1)) rfl rfl (fun w' hw' => ?_) ?_; (focus (go_simp; try omega)); simp only [zt,zs,zz,Act.put,zi,zy,zx])
 (refine qtc (v := Value.int .u8 ((s[p + 1]'hp1).toNat : Int)) rfl rfl (fun w' hw' => ?_) ?_; (focus (go_simp; rw [dif_pos (by omega)]; rfl)); simp only [zt,zs,zz,Act.put,zi,zy,zx])
 iterate 2 (refine qtc (v := Value.bool true) rfl rfl (fun w' hw' => ?_) ?_; (focus (go_simp; try omega)); simp only [zt,zs,zz,Act.put,zi,zy,zx])
 iterate 8 (refine qtc (v := ?_) rfl rfl (fun w' hw' => ?_) ?_; rotate_left; (focus ((obtain ⟨d0, d1, d2, d3⟩ := HC.out w' hw'; go_simp); try with_reducible rfl)); simp only [zt,zs,zz,Act.put,zi,zy,zx])
 (refine qtc (v := Value.int .i64 ((p : Int) + 1)) rfl rfl (fun w' hw' => ?_) ?_; (focus (go_simp; try omega)); simp only [zt,zs,zz,Act.put,zi,zy,zx])
 (refine qtc (v := Value.int .u8 ((s[p + 1]'hp1).toNat : Int)) rfl rfl (fun w' hw' => ?_) ?_; (focus (go_simp; rw [dif_pos (by omega)]; rfl)); simp only [zt,zs,zz,Act.put,zi,zy,zx])
 iterate 4 (refine qtc (v := Value.bool false) rfl rfl (fun w' hw' => ?_) ?_; (focus (go_simp; try omega)); simp only [zt,zs,zz,Act.put,zi,zy,zx])
 iterate 4 (refine qtc (v := ?_) rfl rfl (fun w' hw' => ?_) ?_; rotate_left; (focus ((obtain ⟨d0, d1, d2, d3⟩ := HC.out w' hw'; go_simp); try with_reducible rfl)); simp only [zt,zs,zz,Act.put,zi,zy,zx])
 (refine qtc (v := Value.int .i64 ((p : Int) + 2)) rfl rfl (fun w' hw' => ?_) ?_; (focus (go_simp; try omega)); simp only [zt,zs,zz,Act.put,zi,zy,zx])
 iterate 5 (refine qtc (v := ?_) rfl rfl (fun w' hw' => ?_) ?_; rotate_left; (focus ((obtain ⟨d0, d1, d2, d3⟩ := HC.out w' hw'; go_simp); try with_reducible rfl)); simp only [zt,zs,zz,Act.put,zi,zy,zx])
 iterate 2 (refine qtc (v := Value.bool true) rfl rfl (fun w' hw' => ?_) ?_; (focus (go_simp; try omega)); simp only [zt,zs,zz,Act.put,zi,zy,zx])
 iterate 8 (refine qtc (v := ?_) rfl rfl (fun w' hw' => ?_) ?_; rotate_left; (focus ((obtain ⟨d0, d1, d2, d3⟩ := HC.out w' hw'; go_simp); try with_reducible rfl)); simp only [zt,zs,zz,Act.put,zi,zy,zx])
 (refine qtc (v := Value.int .i64 ((p : Int) + 2)) rfl rfl (fun w' hw' => ?_) ?_; (focus (go_simp; try omega)); simp only [zt,zs,zz,Act.put,zi,zy,zx])
 (refine qtc (v := Value.int .u8 ((s[p + 2]'hp2).toNat : Int)) rfl rfl (fun w' hw' => ?_) ?_; (focus (go_simp; rw [dif_pos (by omega)]; have e : ((p : Int) + 2).toNat = p + 2 := (by omega); simp only [e]; rfl)); simp only [zt,zs,zz,Act.put,zi,zy,zx])
 refine qtn ?_
 simp only [zt,zs,zz,Act.put,zi,zy,zx,qzl,qzn,qza,Nat.reduceAdd,Nat.reduceSub]
 refine wpAnyH_ready (rs := [60]) (by kernel_rfl) (by simp) ?_
 refine (AllReadyH.cons rfl (fun K hK => ?_) AllReadyH.nil)
 go_simp
 refine (sign_any _ _).mono ?_
 rintro e w' ⟨rfl, rfl⟩
 simp only [hsg]
 refine hK.out _ _ hHeld (fun hHeld => ?_)
 clear hK K
 try simp only [zt,zs,zz,Act.put,zi,zy,zx]
 refine qtk (i := 61) (v := Value.bool false) rfl rfl (fun w' hw' => ?_) hHeld ?_
 ·go_simp; try omega
 simp only [zt,zs,zz,Act.put,zi,zy,zx]
 refine qtk (i := 62) (v := Value.bool false) rfl rfl (fun w' hw' => ?_) hHeld ?_
 ·go_simp; try omega
 simp only [zt,zs,zz,Act.put,zi,zy,zx]
 refine wpAnyH_done (by kernel_rfl) ?_ _
 refine NoPanic.normal ?_
 clear hHeld
 clear HC HS0
 go_upto_region 18 with fail
 obtain ⟨pp, hpp⟩ : ∃ pp, pp = p + 2 := ⟨_, rfl⟩
 have e11 : IntKind.i64.wrap ((p : Int) + 2) = (pp : Int) := by rw [hpp, e10]; omega
 have hpps : pp ≤ s.size := by omega
 have hppp : p ≤ pp := by omega
 clear e10
 have hgx : g < X2.drew.heap.size := HR.out.lt
 have FP := Lib.hid (put3_any g s p es out (.mk 2 ⟨#[35, s[p + 1]'hp1]⟩ [] [] p) 2 ⟨#[35, s[p + 1]'hp1]⟩ none 0 0 none 0 0 p p X2.drew (HS.out.drew HR.out.lt).rd hgx (by rw [At_mk]; exact ⟨_, _, rfl, .inl ⟨rfl, rfl⟩, .inl ⟨rfl, rfl⟩⟩) HB.out (by omega))
 have HCT : Hid (s.extract p pp = ⟨#[35, s[p + 1]'hp1]⟩) := by rw [hpp]; exact cut_two hp (by rw [HBB.out]; exact HBV.out) hp1
 have HN : Hid (nxt s p b es out = (0, pp, (putS (.mk 2 ⟨#[35, s[p + 1]'hp1]⟩ [] [] p) es out).1, (putS (.mk 2 ⟨#[35, s[p + 1]'hp1]⟩ [] [] p) es out).2)) := by rw [hpp]; exact HN.out
 clear hgx hpp
 have HC : Hid (∀ w', Below X2.heap.size X2 w' → w'.cell? ⟨g, 0, none⟩ = some (.string s) ∧ w'.cell? ⟨g, 1, none⟩ = some (.int .i64 (p : Int)) ∧ w'.cell? ⟨g, 2, none⟩ = some (.slice ao es.length c) ∧ w'.cell? ⟨g, 3, none⟩ = some dv) := fun w' hw' => by
  have h9 : w'.heap[g]? = some (.cells #[.string s, .int .i64 (p : Int), .slice ao es.length c, dv] 114 (0, 0)) := by rw [hw'.block g HR.out.lt]; exact HR.out
  exact Rs3.cells (p := p) h9
 have HS0 : Hid (Below X2.heap.size X2 X2.drew) := (Below.refl _ _).drew
 replace HS : Hid (Stt D g s p es out w X2.drew) := HS.out.drew HR.out.lt
 replace HR : Hid (Rs3 X2.drew g s p (.slice ao es.length c) dv) := HR.out
 refine wp_region_noPanic ?_
 refine wp_region_late (S := Below X2.heap.size X2) (fun i => i == 20) (by kernel_rfl) HS0.out (fun hHeld => ?_)
 generalize X2.drew = X3 at HS0 HS HR FP hHeld ⊢
 refine qtl [0, 1, 2, 3, 4, 5, 6, 7, 8, 9, 10, 11, 12, 13, 14] hHeld ?_
 iterate 13 (refine qtc (v := ?_) rfl rfl (fun w' hw' => ?_) ?_; rotate_left; (focus ((obtain ⟨d0, d1, d2, d3⟩ := HC.out w' hw'; go_simp); try with_reducible rfl)); simp only [zt,zs,zz,Act.put,zi,zy,zx])
 (refine qtc (v := Value.int .i64 (pp : Int)) rfl rfl (fun w' hw' => ?_) ?_; (focus (go_simp)); simp only [zt,zs,zz,Act.put,zi,zy,zx])
 (refine qtc (v := Value.string (s.extract p pp)) rfl rfl (fun w' hw' => ?_) ?_; (focus (go_simp; try omega)); simp only [zt,zs,zz,Act.put,zi,zy,zx])
 refine qtn ?_
 simp only [zt,zs,zz,Act.put,zi,zy,zx,qzl,qzn,qza,Nat.reduceAdd,Nat.reduceSub]
 rw [HCT.out]
 refine qtl [15, 16, 17, 18, 19] hHeld ?_
 iterate 5 (refine qtc (v := ?_) rfl rfl (fun w' hw' => ?_) ?_; rotate_left; (focus ((obtain ⟨d0, d1, d2, d3⟩ := HC.out w' hw'; go_simp); try with_reducible rfl)); simp only [zt,zs,zz,Act.put,zi,zy,zx])
 refine qtn ?_
 simp only [zt,zs,zz,Act.put,zi,zy,zx,qzl,qzn,qza,Nat.reduceAdd,Nat.reduceSub]
 refine wpAnyL_ready (rs := [20]) (by kernel_rfl) (by simp) ?_
 refine (AllL.last (S2 := fun _ => True) rfl rfl (fun K hK => ?_) AllL.nil)
 go_simp
 refine FP.out.mono ?_
 rintro e7 w7 ⟨rfl, hbl, hsz, D7, hD7⟩
 have HB7 := Lib.hid hbl
 have HZ7 := Lib.hid hsz
 have HD7 := Lib.hid hD7
 clear hbl hsz hD7
 refine hK.out _ _ trivial (fun hHeld => ?_)
 clear hK K
 try simp only [zt,zs,zz,Act.put,zi,zy,zx]
 refine wpAnyH_done (by kernel_rfl) ?_ _
 refine NoPanic.normal ?_
 clear hHeld
 clear HC HS0
 have HLO : Hid (Below g w w7) := HS.out.low.trans HB7.out
 have HSZ : Hid (w.heap.size ≤ w7.heap.size) := by have h1 := HS.out.size; have h2 := HZ7.out; show _ ≤ _; omega
 obtain ⟨ao3, c3, bo3, dd3, hf3⟩ := HD7.out.form
 have d1 := hf3.cells.2.1
 have fz := hf3.frozen 1
 have HRD := Lib.hid (HD7.out.setP pp)
 have HL1 : Hid (Below g w (w7.setCell ⟨g, 1, none⟩ (.int .i64 (pp : Int)))) := HLO.out.setCell (p := ⟨g, 1, none⟩) (Nat.le_refl _) _
 have hz : (w7.setCell ⟨g, 1, none⟩ (.int .i64 (pp : Int))).heap.size = w7.heap.size := by simp [World.setCell]
 have HZ1 := Lib.hid hz
 clear hf3 hz HD7 FP HS HR
 go_wp2_with fail
 go_ret
 have hn := HN.out
 unfold RetNx
 rw [hn]
 exact ⟨rfl, HL1.out, by rw [HZ1.out]; exact HSZ.out, fun _ => ⟨D7, by rw [HZ1.out]; exact HRD.out⟩, fun h => absurd rfl h⟩
end Go.Proofs.Ytecljchifebljaa
namespace Go.Proofs.Ytecljchifebljaa
open Go.RowKit Go.BigM
set_option maxHeartbeats 16000000 in
set_option maxRecDepth 100000 in
theorem next_hash_D3 {D : Nat → Prop} (g : Nat) (s : ByteArray) (p : Nat) (es : List En) (out : List Dt) (b : UInt8) (w : World) (h : RdAt D w.heap.size w g s p es out) (hgN : g < w.heap.size) (hp : p < s.size) (hb : s[p] = b) (hs : s.size ≤ 8000) (hB : Bnd es out p) (hbv : b = 35) (hp1 : p + 1 < s.size) (h116 : ¬ (s[p + 1]'hp1).toNat = 116) (h102 : (s[p + 1]'hp1).toNat = 102) (hp2 : ¬ p + 2 < s.size) :
  Calls Try.prog 64 #[.pointer (some ⟨g, 0, none⟩)] w (RetNx g s p b es out w) := by
 obtain ⟨ao, c, bo, dd, hf⟩ := h.form
 obtain ⟨dv, hdv⟩ : ∃ v, v = Value.slice bo out.length dd := ⟨_, rfl⟩
 rw [← hdv] at hf
 have HS := Lib.hid (Stt.start h)
 have HR := Lib.hid hf
 have HB := Lib.hid hB
 have HBB := Lib.hid hb
 have hel : es.length ≤ 60 := hB.2.2
 clear h hB hdv hf hb
 have HBV := Lib.hid hbv
 have hbn : b.toNat = 35 := by rw [hbv]; rfl
 have HNE : Hid (b ≠ 40 ∧ b ≠ 39 ∧ b ≠ 41) := by show _ ∧ _; rw [hbv]; decide
 have E40 : ((b.toNat : Int) == 40) = false := by simpa using (show ¬ (b.toNat : Int) = 40 by omega)
 have E39 : ((b.toNat : Int) == 39) = false := by simpa using (show ¬ (b.toNat : Int) = 39 by omega)
 have E41 : ((b.toNat : Int) == 41) = false := by simpa using (show ¬ (b.toNat : Int) = 41 by omega)
 have E35 : ((b.toNat : Int) == 35) = true := by simpa using (show (b.toNat : Int) = 35 by omega)
 have e9 : IntKind.i64.wrap ((p : Int) + 1) = (p : Int) + 1 := by rw [IntKind.wrap_i64]; omega
 have e10 : IntKind.i64.wrap ((p : Int) + 2) = (p : Int) + 2 := by rw [IntKind.wrap_i64]; omega
 clear hbv hbn
 have q1 : decide ((s.size : Int) ≤ (p : Int) + 1) = false := decide_eq_false (by omega)
 have HCC : Hid (s[p + 1]'hp1 = 116 ∨ s[p + 1]'hp1 = 102) := .inr (u8_is _ 102 h102)
 have F116 : (((s[p + 1]'hp1).toNat : Int) == 116) = false := by rw [beq_eq_false_iff_ne]; omega
 have G116 : (((s[p + 1]'hp1).toNat : Int) != 116) = true := by simp [bne, F116]
 have F102 : (((s[p + 1]'hp1).toNat : Int) == 102) = true := by rw [beq_iff_eq]; omega
 have G102 : (((s[p + 1]'hp1).toNat : Int) != 102) = false := by simp [bne, F102]
 clear h116 h102
 have q2 : decide ((p : Int) + 2 < (s.size : Int)) = false := decide_eq_false (by omega)
 go_enter Try.func64, Try.ntmps64
 go_upto_region 1 with fail
 have HC : Hid (∀ w', Below w.heap.size w w' → w'.cell? ⟨g, 0, none⟩ = some (.string s) ∧ w'.cell? ⟨g, 1, none⟩ = some (.int .i64 (p : Int)) ∧ w'.cell? ⟨g, 2, none⟩ = some (.slice ao es.length c) ∧ w'.cell? ⟨g, 3, none⟩ = some dv) := fun w' hw' => by
  have h9 : w'.heap[g]? = some (.cells #[.string s, .int .i64 (p : Int), .slice ao es.length c, dv] 114 (0, 0)) := by rw [hw'.block g HR.out.lt]; exact HR.out
  exact Rs3.cells (p := p) h9
 have HS0 : Hid (Below w.heap.size w w.drew) := (Below.refl _ _).drew
 replace HS : Hid (Stt D g s p es out w w.drew) := HS.out.drew HR.out.lt
 replace HR : Hid (Rs3 w.drew g s p (.slice ao es.length c) dv) := HR.out
 refine wp_region_noPanic ?_
 refine wp_region_held_drew (S := Below w.heap.size w) (by kernel_rfl) HS0.out (fun hHeld => ?_)
 generalize w.drew = X1 at HS0 HS HR hHeld ⊢
 refine qts [0, 1, 2, 3, 4, 5, 6, 7, 8, 9] hHeld ?_
 iterate 8 (refine qtc (v := ?_) rfl rfl (fun w' hw' => ?_) ?_; rotate_left; (focus ((obtain ⟨d0, d1, d2, d3⟩ := HC.out w' hw'; go_simp); try with_reducible rfl)); simp only [zt,zs,zz,Act.put,zi,zy,zx])
 (refine qtc (v := Value.int .u8 ((s[p]'hp).toNat : Int)) rfl rfl (fun w' hw' => ?_) ?_; (focus (go_simp)); simp only [zt,zs,zz,Act.put,zi,zy,zx])
 (refine qtc (v := ?_) rfl rfl (fun w' hw' => ?_) ?_; rotate_left; (focus ((obtain ⟨d0, d1, d2, d3⟩ := HC.out w' hw'; go_simp); try with_reducible rfl)); simp only [zt,zs,zz,Act.put,zi,zy,zx])
 refine qtn ?_
 simp only [zt,zs,zz,Act.put,zi,zy,zx,qzl,qzn,qza,Nat.reduceAdd,Nat.reduceSub]
 refine wpAnyH_done (by kernel_rfl) ?_ _
 refine NoPanic.normal ?_
 clear hHeld
 clear HC HS0
 rw [HBB.out]
 have HN : Hid (nxt s p b es out = (0, p + 2, (putS (.mk 2 ⟨#[35, s[p + 1]'hp1]⟩ [] [] p) es out).1, (putS (.mk 2 ⟨#[35, s[p + 1]'hp1]⟩ [] [] p) es out).2)) := by
  show _ = _
  rw [nxt_tok HNE.out.1 HNE.out.2.1 HNE.out.2.2 (by rw [hash_b hp (by rw [HBB.out]; exact HBV.out) hp1, if_pos ⟨HCC.out, row0_end hp2⟩])]
 go_upto_region 16 with fail
 have HC : Hid (∀ w', Below X1.heap.size X1 w' → w'.cell? ⟨g, 0, none⟩ = some (.string s) ∧ w'.cell? ⟨g, 1, none⟩ = some (.int .i64 (p : Int)) ∧ w'.cell? ⟨g, 2, none⟩ = some (.slice ao es.length c) ∧ w'.cell? ⟨g, 3, none⟩ = some dv) := fun w' hw' => by
  have h9 : w'.heap[g]? = some (.cells #[.string s, .int .i64 (p : Int), .slice ao es.length c, dv] 114 (0, 0)) := by rw [hw'.block g HR.out.lt]; exact HR.out
  exact Rs3.cells (p := p) h9
 have HS0 : Hid (Below X1.heap.size X1 X1.drew) := (Below.refl _ _).drew
 replace HS : Hid (Stt D g s p es out w X1.drew) := HS.out.drew HR.out.lt
 replace HR : Hid (Rs3 X1.drew g s p (.slice ao es.length c) dv) := HR.out
 refine wp_region_noPanic ?_
 refine wp_region_held_drew (S := Below X1.heap.size X1) (by kernel_rfl) HS0.out (fun hHeld => ?_)
 generalize X1.drew = X2 at HS0 HS HR hHeld ⊢
 refine qts [0, 1, 2, 3, 4, 5, 6, 7, 8, 9, 10, 11, 12, 13, 14, 15, 16, 17, 18, 19, 20, 21, 22, 23, 24, 25, 26, 27, 28, 29, 30, 31, 32, 33, 34, 35, 36, 37, 38, 39, 40, 41, 42, 43, 44, 45, 46, 47, 48, 49, 50, 51, 52, 53, 54, 55, 56, 57, 58, 59, 60, 61, 62] hHeld ?_
 iterate 4 (refine qtc (v := ?_) rfl rfl (fun w' hw' => ?_) ?_; rotate_left; (focus ((obtain ⟨d0, d1, d2, d3⟩ := HC.out w' hw'; go_simp); try with_reducible rfl)); simp only [zt,zs,zz,Act.put,zi,zy,zx])
 (refine qtc (v := Value.int .i64 ((p : Int) + 1)) rfl rfl (fun w' hw' => ?_) ?_; (focus (go_simp; try omega)); simp only [zt,zs,zz,Act.put,zi,zy,zx])
 iterate 5 (refine qtc (v := ?_) rfl rfl (fun w' hw' => ?_) ?_; rotate_left; (focus ((obtain ⟨d0, d1, d2, d3⟩ := HC.out w' hw'; go_simp); try with_reducible rfl)); simp only [zt,zs,zz,Act.put,zi,zy,zx])
 iterate 2 (refine qtc (v := Value.bool false) rfl rfl (fun w' hw' => ?_) ?_; (focus (go_simp; try omega)); simp only [zt,zs,zz,Act.put,zi,zy,zx])
 iterate 8 (refine qtc (v := ?_) rfl rfl (fun w' hw' => ?_) ?_; rotate_left; (focus ((obtain ⟨d0, d1, d2, d3⟩ := HC.out w' hw'; go_simp); try with_reducible rfl)); simp only [zt,zs,zz,Act.put,zi,zy,zx])
 (refine qtc (v := Value.int .i64 ((p : Int) + 1)) rfl rfl (fun w' hw' => ?_) ?_; (focus (go_simp; try omega)); simp only [zt,zs,zz,Act.put,zi,zy,zx])
 (refine qtc (v := Value.int .u8 ((s[p + 1]'hp1).toNat : Int)) rfl rfl (fun w' hw' => ?_) ?_; (focus (go_simp; rw [dif_pos (by omega)]; rfl)); simp only [zt,zs,zz,Act.put,zi,zy,zx])
 iterate 2 (refine qtc (v := Value.bool true) rfl rfl (fun w' hw' => ?_) ?_; (focus (go_simp; try omega)); simp only [zt,zs,zz,Act.put,zi,zy,zx])
 iterate 8 (refine qtc (v := ?_) rfl rfl (fun w' hw' => ?_) ?_; rotate_left; (focus ((obtain ⟨d0, d1, d2, d3⟩ := HC.out w' hw'; go_simp); try with_reducible rfl)); simp only [zt,zs,zz,Act.put,zi,zy,zx])
 (refine qtc (v := Value.int .i64 ((p : Int) + 1)) rfl rfl (fun w' hw' => ?_) ?_; (focus (go_simp; try omega)); simp only [zt,zs,zz,Act.put,zi,zy,zx])
 (refine qtc (v := Value.int .u8 ((s[p + 1]'hp1).toNat : Int)) rfl rfl (fun w' hw' => ?_) ?_; (focus (go_simp; rw [dif_pos (by omega)]; rfl)); simp only [zt,zs,zz,Act.put,zi,zy,zx])
 iterate 4 (refine qtc (v := Value.bool false) rfl rfl (fun w' hw' => ?_) ?_; (focus (go_simp; try omega)); simp only [zt,zs,zz,Act.put,zi,zy,zx])
 iterate 4 (refine qtc (v := ?_) rfl rfl (fun w' hw' => ?_) ?_; rotate_left; (focus ((obtain ⟨d0, d1, d2, d3⟩ := HC.out w' hw'; go_simp); try with_reducible rfl)); simp only [zt,zs,zz,Act.put,zi,zy,zx])
 (refine qtc (v := Value.int .i64 ((p : Int) + 2)) rfl rfl (fun w' hw' => ?_) ?_; (focus (go_simp; try omega)); simp only [zt,zs,zz,Act.put,zi,zy,zx])
 iterate 5 (refine qtc (v := ?_) rfl rfl (fun w' hw' => ?_) ?_; rotate_left; (focus ((obtain ⟨d0, d1, d2, d3⟩ := HC.out w' hw'; go_simp); try with_reducible rfl)); simp only [zt,zs,zz,Act.put,zi,zy,zx])
 iterate 2 (refine qtc (v := Value.bool false) rfl rfl (fun w' hw' => ?_) ?_; (focus (go_simp; try omega)); simp only [zt,zs,zz,Act.put,zi,zy,zx])
 iterate 11 (refine qtz rfl rfl ?_; simp only [zt,zs,zz,Act.put,zi,zy,zx])
 iterate 2 (refine qtc (v := Value.bool false) rfl rfl (fun w' hw' => ?_) ?_; (focus (go_simp; try omega)); simp only [zt,zs,zz,Act.put,zi,zy,zx])
 refine qtn ?_
 simp only [zt,zs,zz,Act.put,zi,zy,zx,qzl,qzn,qza,Nat.reduceAdd,Nat.reduceSub]
 refine wpAnyH_done (by kernel_rfl) ?_ _
 refine NoPanic.normal ?_
 clear hHeld
 clear HC HS0
 go_upto_region 18 with fail
 obtain ⟨pp, hpp⟩ : ∃ pp, pp = p + 2 := ⟨_, rfl⟩
 have e11 : IntKind.i64.wrap ((p : Int) + 2) = (pp : Int) := by rw [hpp, e10]; omega
 have hpps : pp ≤ s.size := by omega
 have hppp : p ≤ pp := by omega
 clear e10
 have hgx : g < X2.drew.heap.size := HR.out.lt
 have FP := Lib.hid (put3_any g s p es out (.mk 2 ⟨#[35, s[p + 1]'hp1]⟩ [] [] p) 2 ⟨#[35, s[p + 1]'hp1]⟩ none 0 0 none 0 0 p p X2.drew (HS.out.drew HR.out.lt).rd hgx (by rw [At_mk]; exact ⟨_, _, rfl, .inl ⟨rfl, rfl⟩, .inl ⟨rfl, rfl⟩⟩) HB.out (by omega))
 have HCT : Hid (s.extract p pp = ⟨#[35, s[p + 1]'hp1]⟩) := by rw [hpp]; exact cut_two hp (by rw [HBB.out]; exact HBV.out) hp1
 have HN : Hid (nxt s p b es out = (0, pp, (putS (.mk 2 ⟨#[35, s[p + 1]'hp1]⟩ [] [] p) es out).1, (putS (.mk 2 ⟨#[35, s[p + 1]'hp1]⟩ [] [] p) es out).2)) := by rw [hpp]; exact HN.out
 clear hgx hpp
 have HC : Hid (∀ w', Below X2.heap.size X2 w' → w'.cell? ⟨g, 0, none⟩ = some (.string s) ∧ w'.cell? ⟨g, 1, none⟩ = some (.int .i64 (p : Int)) ∧ w'.cell? ⟨g, 2, none⟩ = some (.slice ao es.length c) ∧ w'.cell? ⟨g, 3, none⟩ = some dv) := fun w' hw' => by
  have h9 : w'.heap[g]? = some (.cells #[.string s, .int .i64 (p : Int), .slice ao es.length c, dv] 114 (0, 0)) := by rw [hw'.block g HR.out.lt]; exact HR.out
  exact Rs3.cells (p := p) h9
 have HS0 : Hid (Below X2.heap.size X2 X2.drew) := (Below.refl _ _).drew
 replace HS : Hid (Stt D g s p es out w X2.drew) := HS.out.drew HR.out.lt
 replace HR : Hid (Rs3 X2.drew g s p (.slice ao es.length c) dv) := HR.out
 refine wp_region_noPanic ?_
 refine wp_region_late (S := Below X2.heap.size X2) (fun i => i == 20) (by kernel_rfl) HS0.out (fun hHeld => ?_)
 generalize X2.drew = X3 at HS0 HS HR FP hHeld ⊢
 refine qtl [0, 1, 2, 3, 4, 5, 6, 7, 8, 9, 10, 11, 12, 13, 14] hHeld ?_
 iterate 13 (refine qtc (v := ?_) rfl rfl (fun w' hw' => ?_) ?_; rotate_left; (focus ((obtain ⟨d0, d1, d2, d3⟩ := HC.out w' hw'; go_simp); try with_reducible rfl)); simp only [zt,zs,zz,Act.put,zi,zy,zx])
 (refine qtc (v := Value.int .i64 (pp : Int)) rfl rfl (fun w' hw' => ?_) ?_; (focus (go_simp)); simp only [zt,zs,zz,Act.put,zi,zy,zx])
 (refine qtc (v := Value.string (s.extract p pp)) rfl rfl (fun w' hw' => ?_) ?_; (focus (go_simp; try omega)); simp only [zt,zs,zz,Act.put,zi,zy,zx])
 refine qtn ?_
 simp only [zt,zs,zz,Act.put,zi,zy,zx,qzl,qzn,qza,Nat.reduceAdd,Nat.reduceSub]
 rw [HCT.out]
 refine qtl [15, 16, 17, 18, 19] hHeld ?_
 iterate 5 (refine qtc (v := ?_) rfl rfl (fun w' hw' => ?_) ?_; rotate_left; (focus ((obtain ⟨d0, d1, d2, d3⟩ := HC.out w' hw'; go_simp); try with_reducible rfl)); simp only [zt,zs,zz,Act.put,zi,zy,zx])
 refine qtn ?_
 simp only [zt,zs,zz,Act.put,zi,zy,zx,qzl,qzn,qza,Nat.reduceAdd,Nat.reduceSub]
 refine wpAnyL_ready (rs := [20]) (by kernel_rfl) (by simp) ?_
 refine (AllL.last (S2 := fun _ => True) rfl rfl (fun K hK => ?_) AllL.nil)
 go_simp
 refine FP.out.mono ?_
 rintro e7 w7 ⟨rfl, hbl, hsz, D7, hD7⟩
 have HB7 := Lib.hid hbl
 have HZ7 := Lib.hid hsz
 have HD7 := Lib.hid hD7
 clear hbl hsz hD7
 refine hK.out _ _ trivial (fun hHeld => ?_)
 clear hK K
 try simp only [zt,zs,zz,Act.put,zi,zy,zx]
 refine wpAnyH_done (by kernel_rfl) ?_ _
 refine NoPanic.normal ?_
 clear hHeld
 clear HC HS0
 have HLO : Hid (Below g w w7) := HS.out.low.trans HB7.out
 have HSZ : Hid (w.heap.size ≤ w7.heap.size) := by have h1 := HS.out.size; have h2 := HZ7.out; show _ ≤ _; omega
 obtain ⟨ao3, c3, bo3, dd3, hf3⟩ := HD7.out.form
 have d1 := hf3.cells.2.1
 have fz := hf3.frozen 1
 have HRD := Lib.hid (HD7.out.setP pp)
 have HL1 : Hid (Below g w (w7.setCell ⟨g, 1, none⟩ (.int .i64 (pp : Int)))) := HLO.out.setCell (p := ⟨g, 1, none⟩) (Nat.le_refl _) _
 have hz : (w7.setCell ⟨g, 1, none⟩ (.int .i64 (pp : Int))).heap.size = w7.heap.size := by simp [World.setCell]
 have HZ1 := Lib.hid hz
 clear hf3 hz HD7 FP HS HR
 go_wp2_with fail
 go_ret
 have hn := HN.out
 unfold RetNx
 rw [hn]
 exact ⟨rfl, HL1.out, by rw [HZ1.out]; exact HSZ.out, fun _ => ⟨D7, by rw [HZ1.out]; exact HRD.out⟩, fun h => absurd rfl h⟩
end Go.Proofs.Ytecljchifebljaa
