/- The document's reader: next: a boolean, case D3. -/
import Derived.Test.YthhaegncnoekbaaYAA
import Derived.Test.YthhaegncnoekbaaYAI
import Derived.Test.YthhaegncnoekbaaYAH
import Derived.Test.YthhaegncnoekbaaYAJ
import Derived.Test.YthhaegncnoekbaaYAK
import Derived.Test.YthhaegncnoekbaaYAL
set_option linter.unusedVariables false
set_option linter.unusedSimpArgs false
namespace Go.Proofs.Ythhaegncnoekbaa
open Go.RowKit Go.BigM
set_option maxHeartbeats 16000000 in
set_option maxRecDepth 100000 in
theorem next_hash_D3 {D : Nat → Prop} (g : Nat) (s : ByteArray) (p : Nat) (es : List En) (out : List Dt) (b : UInt8) (w : World) (h : RdAt D w.heap.size w g s p es out) (hgN : g < w.heap.size) (hp : p < s.size) (hb : s[p] = b) (hs : s.size ≤ 8000) (hB : Bnd es out p) (hbv : b = 35) (hp1 : p + 1 < s.size) (h116 : ¬ (s[p + 1]'hp1).toNat = 116) (h102 : (s[p + 1]'hp1).toNat = 102) (hp2 : ¬ p + 2 < s.size) :
    Calls Try.prog 64 #[.pointer (some ⟨g, 0, none⟩)] w (RetNx g s p b es out w) := by
  obtain ⟨ao, c, bo, dd, hf⟩ := h.form
  obtain ⟨dv, hdv⟩ : ∃ v, v = Value.slice bo out.length dd := ⟨_, rfl⟩
  rw [← hdv] at hf
  have HS := Lib.hid (Stt.start h)
  have HR := Lib.hid hf
  have HB := Lib.hid hB
  have HBB := Lib.hid hb
  have hel : es.length ≤ 60 := hB.2.2
  clear h hB hdv hf hb
  have HBV := Lib.hid hbv
  have hbn : b.toNat = 35 := by rw [hbv]; rfl
  have HNE : Hid (b ≠ 40 ∧ b ≠ 39 ∧ b ≠ 41) := by show _ ∧ _; rw [hbv]; decide
  have E40 : ((b.toNat : Int) == 40) = false := by simpa using (show ¬ (b.toNat : Int) = 40 by omega)
  have E39 : ((b.toNat : Int) == 39) = false := by simpa using (show ¬ (b.toNat : Int) = 39 by omega)
  have E41 : ((b.toNat : Int) == 41) = false := by simpa using (show ¬ (b.toNat : Int) = 41 by omega)
  have E35 : ((b.toNat : Int) == 35) = true := by simpa using (show (b.toNat : Int) = 35 by omega)
  have e9 : IntKind.i64.wrap ((p : Int) + 1) = (p : Int) + 1 := by rw [IntKind.wrap_i64]; omega
  have e10 : IntKind.i64.wrap ((p : Int) + 2) = (p : Int) + 2 := by rw [IntKind.wrap_i64]; omega
  clear hbv hbn
  have q1 : decide ((s.size : Int) ≤ (p : Int) + 1) = false := decide_eq_false (by omega)
  have HCC : Hid (s[p + 1]'hp1 = 116 ∨ s[p + 1]'hp1 = 102) := .inr (u8_is _ 102 h102)
  have F116 : (((s[p + 1]'hp1).toNat : Int) == 116) = false := by rw [beq_eq_false_iff_ne]; omega
  have G116 : (((s[p + 1]'hp1).toNat : Int) != 116) = true := by simp [bne, F116]
  have F102 : (((s[p + 1]'hp1).toNat : Int) == 102) = true := by rw [beq_iff_eq]; omega
  have G102 : (((s[p + 1]'hp1).toNat : Int) != 102) = false := by simp [bne, F102]
  clear h116 h102
  have q2 : decide ((p : Int) + 2 < (s.size : Int)) = false := decide_eq_false (by omega)
  go_enter Try.func64, Try.ntmps64
  go_upto_region 1 with fail
  have HC : Hid (∀ w', Below w.heap.size w w' → w'.cell? ⟨g, 0, none⟩ = some (.string s) ∧ w'.cell? ⟨g, 1, none⟩ = some (.int .i64 (p : Int)) ∧ w'.cell? ⟨g, 2, none⟩ = some (.slice ao es.length c) ∧ w'.cell? ⟨g, 3, none⟩ = some dv) := fun w' hw' => by
    have h9 : w'.heap[g]? = some (.cells #[.string s, .int .i64 (p : Int), .slice ao es.length c, dv] 114 (0, 0)) := by rw [hw'.block g HR.out.lt]; exact HR.out
    exact Rs3.cells (p := p) h9
  have HS0 : Hid (Below w.heap.size w w.drew) := (Below.refl _ _).drew
  replace HS : Hid (Stt D g s p es out w w.drew) := HS.out.drew HR.out.lt
  replace HR : Hid (Rs3 w.drew g s p (.slice ao es.length c) dv) := HR.out
  refine wp_region_noPanic ?_
  refine wp_region_held_drew (S := Below w.heap.size w) (by kernel_rfl) HS0.out (fun hHeld => ?_)
  generalize w.drew = X1 at HS0 HS HR hHeld ⊢
  refine qtk (i := 0) (v := ?v730) rfl rfl (fun w' hw' => ?h730) hHeld ?r730
  case h730 => go_simp; try with_reducible rfl
  simp only [zt,zs,zz,Act.put,zi,zy,zx]
  refine qtk (i := 1) (v := ?v731) rfl rfl (fun w' hw' => ?h731) hHeld ?r731
  case h731 => go_simp; try with_reducible rfl
  simp only [zt,zs,zz,Act.put,zi,zy,zx]
  refine qtk (i := 2) (v := ?v732) rfl rfl (fun w' hw' => ?h732) hHeld ?r732
  case h732 => go_simp; try with_reducible rfl
  simp only [zt,zs,zz,Act.put,zi,zy,zx]
  refine qtk (i := 3) (v := ?v733) rfl rfl (fun w' hw' => ?h733) hHeld ?r733
  case h733 => (obtain ⟨d0, d1, d2, d3⟩ := HC.out w' hw'; go_simp); try with_reducible rfl
  simp only [zt,zs,zz,Act.put,zi,zy,zx]
  refine qtk (i := 4) (v := ?v734) rfl rfl (fun w' hw' => ?h734) hHeld ?r734
  case h734 => go_simp; try with_reducible rfl
  simp only [zt,zs,zz,Act.put,zi,zy,zx]
  refine qtk (i := 5) (v := ?v735) rfl rfl (fun w' hw' => ?h735) hHeld ?r735
  case h735 => go_simp; try with_reducible rfl
  simp only [zt,zs,zz,Act.put,zi,zy,zx]
  refine qtk (i := 6) (v := ?v736) rfl rfl (fun w' hw' => ?h736) hHeld ?r736
  case h736 => go_simp; try with_reducible rfl
  simp only [zt,zs,zz,Act.put,zi,zy,zx]
  refine qtk (i := 7) (v := ?v737) rfl rfl (fun w' hw' => ?h737) hHeld ?r737
  case h737 => (obtain ⟨d0, d1, d2, d3⟩ := HC.out w' hw'; go_simp); try with_reducible rfl
  simp only [zt,zs,zz,Act.put,zi,zy,zx]
  refine qtk (i := 8) (v := Value.int .u8 ((s[p]'hp).toNat : Int)) rfl rfl (fun w' hw' => ?_) hHeld ?_
  · go_simp
  simp only [zt,zs,zz,Act.put,zi,zy,zx]
  refine qtk (i := 9) (v := ?v739) rfl rfl (fun w' hw' => ?h739) hHeld ?r739
  case h739 => go_simp; try with_reducible rfl
  simp only [zt,zs,zz,Act.put,zi,zy,zx]
  refine wpAnyH_done (by kernel_rfl) ?_ _
  refine NoPanic.normal ?_
  clear hHeld
  clear HC HS0
  rw [HBB.out]
  have HN : Hid (nxt s p b es out = (0, p + 2, (putS (.mk 2 ⟨#[35, s[p + 1]'hp1]⟩ [] [] p) es out).1, (putS (.mk 2 ⟨#[35, s[p + 1]'hp1]⟩ [] [] p) es out).2)) := by
    show _ = _
    rw [nxt_tok HNE.out.1 HNE.out.2.1 HNE.out.2.2 (by rw [hash_b hp (by rw [HBB.out]; exact HBV.out) hp1, if_pos ⟨HCC.out, row0_end hp2⟩])]
  go_upto_region 16 with fail
  have HC : Hid (∀ w', Below X1.heap.size X1 w' → w'.cell? ⟨g, 0, none⟩ = some (.string s) ∧ w'.cell? ⟨g, 1, none⟩ = some (.int .i64 (p : Int)) ∧ w'.cell? ⟨g, 2, none⟩ = some (.slice ao es.length c) ∧ w'.cell? ⟨g, 3, none⟩ = some dv) := fun w' hw' => by
    have h9 : w'.heap[g]? = some (.cells #[.string s, .int .i64 (p : Int), .slice ao es.length c, dv] 114 (0, 0)) := by rw [hw'.block g HR.out.lt]; exact HR.out
    exact Rs3.cells (p := p) h9
  have HS0 : Hid (Below X1.heap.size X1 X1.drew) := (Below.refl _ _).drew
  replace HS : Hid (Stt D g s p es out w X1.drew) := HS.out.drew HR.out.lt
  replace HR : Hid (Rs3 X1.drew g s p (.slice ao es.length c) dv) := HR.out
  refine wp_region_noPanic ?_
  refine wp_region_held_drew (S := Below X1.heap.size X1) (by kernel_rfl) HS0.out (fun hHeld => ?_)
  generalize X1.drew = X2 at HS0 HS HR hHeld ⊢
  refine qtk (i := 0) (v := ?v627) rfl rfl (fun w' hw' => ?h627) hHeld ?r627
  case h627 => go_simp; try with_reducible rfl
  simp only [zt,zs,zz,Act.put,zi,zy,zx]
  refine qtk (i := 1) (v := ?v628) rfl rfl (fun w' hw' => ?h628) hHeld ?r628
  case h628 => go_simp; try with_reducible rfl
  simp only [zt,zs,zz,Act.put,zi,zy,zx]
  refine qtk (i := 2) (v := ?v629) rfl rfl (fun w' hw' => ?h629) hHeld ?r629
  case h629 => go_simp; try with_reducible rfl
  simp only [zt,zs,zz,Act.put,zi,zy,zx]
  refine qtk (i := 3) (v := ?v630) rfl rfl (fun w' hw' => ?h630) hHeld ?r630
  case h630 => (obtain ⟨d0, d1, d2, d3⟩ := HC.out w' hw'; go_simp); try with_reducible rfl
  simp only [zt,zs,zz,Act.put,zi,zy,zx]
  refine qtk (i := 4) (v := Value.int .i64 ((p : Int) + 1)) rfl rfl (fun w' hw' => ?_) hHeld ?_
  · go_simp; try omega
  simp only [zt,zs,zz,Act.put,zi,zy,zx]
  refine qtk (i := 5) (v := ?v632) rfl rfl (fun w' hw' => ?h632) hHeld ?r632
  case h632 => go_simp; try with_reducible rfl
  simp only [zt,zs,zz,Act.put,zi,zy,zx]
  refine qtk (i := 6) (v := ?v633) rfl rfl (fun w' hw' => ?h633) hHeld ?r633
  case h633 => go_simp; try with_reducible rfl
  simp only [zt,zs,zz,Act.put,zi,zy,zx]
  refine qtk (i := 7) (v := ?v634) rfl rfl (fun w' hw' => ?h634) hHeld ?r634
  case h634 => go_simp; try with_reducible rfl
  simp only [zt,zs,zz,Act.put,zi,zy,zx]
  refine qtk (i := 8) (v := ?v635) rfl rfl (fun w' hw' => ?h635) hHeld ?r635
  case h635 => (obtain ⟨d0, d1, d2, d3⟩ := HC.out w' hw'; go_simp); try with_reducible rfl
  simp only [zt,zs,zz,Act.put,zi,zy,zx]
  refine qtk (i := 9) (v := ?v636) rfl rfl (fun w' hw' => ?h636) hHeld ?r636
  case h636 => go_simp; try with_reducible rfl
  simp only [zt,zs,zz,Act.put,zi,zy,zx]
  refine qtk (i := 10) (v := Value.bool false) rfl rfl (fun w' hw' => ?_) hHeld ?_
  · go_simp; try omega
  simp only [zt,zs,zz,Act.put,zi,zy,zx]
  refine qtk (i := 11) (v := Value.bool false) rfl rfl (fun w' hw' => ?_) hHeld ?_
  · go_simp; try omega
  simp only [zt,zs,zz,Act.put,zi,zy,zx]
  refine qtk (i := 12) (v := ?v639) rfl rfl (fun w' hw' => ?h639) hHeld ?r639
  case h639 => go_simp; try with_reducible rfl
  simp only [zt,zs,zz,Act.put,zi,zy,zx]
  refine qtk (i := 13) (v := ?v640) rfl rfl (fun w' hw' => ?h640) hHeld ?r640
  case h640 => go_simp; try with_reducible rfl
  simp only [zt,zs,zz,Act.put,zi,zy,zx]
  refine qtk (i := 14) (v := ?v641) rfl rfl (fun w' hw' => ?h641) hHeld ?r641
  case h641 => go_simp; try with_reducible rfl
  simp only [zt,zs,zz,Act.put,zi,zy,zx]
  refine qtk (i := 15) (v := ?v642) rfl rfl (fun w' hw' => ?h642) hHeld ?r642
  case h642 => (obtain ⟨d0, d1, d2, d3⟩ := HC.out w' hw'; go_simp); try with_reducible rfl
  simp only [zt,zs,zz,Act.put,zi,zy,zx]
  refine qtk (i := 16) (v := ?v643) rfl rfl (fun w' hw' => ?h643) hHeld ?r643
  case h643 => go_simp; try with_reducible rfl
  simp only [zt,zs,zz,Act.put,zi,zy,zx]
  refine qtk (i := 17) (v := ?v644) rfl rfl (fun w' hw' => ?h644) hHeld ?r644
  case h644 => go_simp; try with_reducible rfl
  simp only [zt,zs,zz,Act.put,zi,zy,zx]
  refine qtk (i := 18) (v := ?v645) rfl rfl (fun w' hw' => ?h645) hHeld ?r645
  case h645 => go_simp; try with_reducible rfl
  simp only [zt,zs,zz,Act.put,zi,zy,zx]
  refine qtk (i := 19) (v := ?v646) rfl rfl (fun w' hw' => ?h646) hHeld ?r646
  case h646 => (obtain ⟨d0, d1, d2, d3⟩ := HC.out w' hw'; go_simp); try with_reducible rfl
  simp only [zt,zs,zz,Act.put,zi,zy,zx]
  refine qtk (i := 20) (v := Value.int .i64 ((p : Int) + 1)) rfl rfl (fun w' hw' => ?_) hHeld ?_
  · go_simp; try omega
  simp only [zt,zs,zz,Act.put,zi,zy,zx]
  refine qtk (i := 21) (v := Value.int .u8 ((s[p + 1]'hp1).toNat : Int)) rfl rfl (fun w' hw' => ?_) hHeld ?_
  · go_simp; rw [dif_pos (by omega)]; rfl
  simp only [zt,zs,zz,Act.put,zi,zy,zx]
  refine qtk (i := 22) (v := Value.bool true) rfl rfl (fun w' hw' => ?_) hHeld ?_
  · go_simp; try omega
  simp only [zt,zs,zz,Act.put,zi,zy,zx]
  refine qtk (i := 23) (v := Value.bool true) rfl rfl (fun w' hw' => ?_) hHeld ?_
  · go_simp; try omega
  simp only [zt,zs,zz,Act.put,zi,zy,zx]
  refine qtk (i := 24) (v := ?v651) rfl rfl (fun w' hw' => ?h651) hHeld ?r651
  case h651 => go_simp; try with_reducible rfl
  simp only [zt,zs,zz,Act.put,zi,zy,zx]
  refine qtk (i := 25) (v := ?v652) rfl rfl (fun w' hw' => ?h652) hHeld ?r652
  case h652 => go_simp; try with_reducible rfl
  simp only [zt,zs,zz,Act.put,zi,zy,zx]
  refine qtk (i := 26) (v := ?v653) rfl rfl (fun w' hw' => ?h653) hHeld ?r653
  case h653 => go_simp; try with_reducible rfl
  simp only [zt,zs,zz,Act.put,zi,zy,zx]
  refine qtk (i := 27) (v := ?v654) rfl rfl (fun w' hw' => ?h654) hHeld ?r654
  case h654 => (obtain ⟨d0, d1, d2, d3⟩ := HC.out w' hw'; go_simp); try with_reducible rfl
  simp only [zt,zs,zz,Act.put,zi,zy,zx]
  refine qtk (i := 28) (v := ?v655) rfl rfl (fun w' hw' => ?h655) hHeld ?r655
  case h655 => go_simp; try with_reducible rfl
  simp only [zt,zs,zz,Act.put,zi,zy,zx]
  refine qtk (i := 29) (v := ?v656) rfl rfl (fun w' hw' => ?h656) hHeld ?r656
  case h656 => go_simp; try with_reducible rfl
  simp only [zt,zs,zz,Act.put,zi,zy,zx]
  refine qtk (i := 30) (v := ?v657) rfl rfl (fun w' hw' => ?h657) hHeld ?r657
  case h657 => go_simp; try with_reducible rfl
  simp only [zt,zs,zz,Act.put,zi,zy,zx]
  refine qtk (i := 31) (v := ?v658) rfl rfl (fun w' hw' => ?h658) hHeld ?r658
  case h658 => (obtain ⟨d0, d1, d2, d3⟩ := HC.out w' hw'; go_simp); try with_reducible rfl
  simp only [zt,zs,zz,Act.put,zi,zy,zx]
  refine qtk (i := 32) (v := Value.int .i64 ((p : Int) + 1)) rfl rfl (fun w' hw' => ?_) hHeld ?_
  · go_simp; try omega
  simp only [zt,zs,zz,Act.put,zi,zy,zx]
  refine qtk (i := 33) (v := Value.int .u8 ((s[p + 1]'hp1).toNat : Int)) rfl rfl (fun w' hw' => ?_) hHeld ?_
  · go_simp; rw [dif_pos (by omega)]; rfl
  simp only [zt,zs,zz,Act.put,zi,zy,zx]
  refine qtk (i := 34) (v := Value.bool false) rfl rfl (fun w' hw' => ?_) hHeld ?_
  · go_simp; try omega
  simp only [zt,zs,zz,Act.put,zi,zy,zx]
  refine qtk (i := 35) (v := Value.bool false) rfl rfl (fun w' hw' => ?_) hHeld ?_
  · go_simp; try omega
  simp only [zt,zs,zz,Act.put,zi,zy,zx]
  refine qtk (i := 36) (v := Value.bool false) rfl rfl (fun w' hw' => ?_) hHeld ?_
  · go_simp; try omega
  simp only [zt,zs,zz,Act.put,zi,zy,zx]
  refine qtk (i := 37) (v := Value.bool false) rfl rfl (fun w' hw' => ?_) hHeld ?_
  · go_simp; try omega
  simp only [zt,zs,zz,Act.put,zi,zy,zx]
  refine qtk (i := 38) (v := ?v665) rfl rfl (fun w' hw' => ?h665) hHeld ?r665
  case h665 => go_simp; try with_reducible rfl
  simp only [zt,zs,zz,Act.put,zi,zy,zx]
  refine qtk (i := 39) (v := ?v666) rfl rfl (fun w' hw' => ?h666) hHeld ?r666
  case h666 => go_simp; try with_reducible rfl
  simp only [zt,zs,zz,Act.put,zi,zy,zx]
  refine qtk (i := 40) (v := ?v667) rfl rfl (fun w' hw' => ?h667) hHeld ?r667
  case h667 => go_simp; try with_reducible rfl
  simp only [zt,zs,zz,Act.put,zi,zy,zx]
  refine qtk (i := 41) (v := ?v668) rfl rfl (fun w' hw' => ?h668) hHeld ?r668
  case h668 => (obtain ⟨d0, d1, d2, d3⟩ := HC.out w' hw'; go_simp); try with_reducible rfl
  simp only [zt,zs,zz,Act.put,zi,zy,zx]
  refine qtk (i := 42) (v := Value.int .i64 ((p : Int) + 2)) rfl rfl (fun w' hw' => ?_) hHeld ?_
  · go_simp; try omega
  simp only [zt,zs,zz,Act.put,zi,zy,zx]
  refine qtk (i := 43) (v := ?v670) rfl rfl (fun w' hw' => ?h670) hHeld ?r670
  case h670 => go_simp; try with_reducible rfl
  simp only [zt,zs,zz,Act.put,zi,zy,zx]
  refine qtk (i := 44) (v := ?v671) rfl rfl (fun w' hw' => ?h671) hHeld ?r671
  case h671 => go_simp; try with_reducible rfl
  simp only [zt,zs,zz,Act.put,zi,zy,zx]
  refine qtk (i := 45) (v := ?v672) rfl rfl (fun w' hw' => ?h672) hHeld ?r672
  case h672 => go_simp; try with_reducible rfl
  simp only [zt,zs,zz,Act.put,zi,zy,zx]
  refine qtk (i := 46) (v := ?v673) rfl rfl (fun w' hw' => ?h673) hHeld ?r673
  case h673 => (obtain ⟨d0, d1, d2, d3⟩ := HC.out w' hw'; go_simp); try with_reducible rfl
  simp only [zt,zs,zz,Act.put,zi,zy,zx]
  refine qtk (i := 47) (v := ?v674) rfl rfl (fun w' hw' => ?h674) hHeld ?r674
  case h674 => go_simp; try with_reducible rfl
  simp only [zt,zs,zz,Act.put,zi,zy,zx]
  refine qtk (i := 48) (v := Value.bool false) rfl rfl (fun w' hw' => ?_) hHeld ?_
  · go_simp; try omega
  simp only [zt,zs,zz,Act.put,zi,zy,zx]
  refine qtk (i := 49) (v := Value.bool false) rfl rfl (fun w' hw' => ?_) hHeld ?_
  · go_simp; try omega
  simp only [zt,zs,zz,Act.put,zi,zy,zx]
  refine qtu (i := 50) rfl rfl hHeld ?_
  simp only [zt,zs,zz,Act.put,zi,zy,zx]
  refine qtu (i := 51) rfl rfl hHeld ?_
  simp only [zt,zs,zz,Act.put,zi,zy,zx]
  refine qtu (i := 52) rfl rfl hHeld ?_
  simp only [zt,zs,zz,Act.put,zi,zy,zx]
  refine qtu (i := 53) rfl rfl hHeld ?_
  simp only [zt,zs,zz,Act.put,zi,zy,zx]
  refine qtu (i := 54) rfl rfl hHeld ?_
  simp only [zt,zs,zz,Act.put,zi,zy,zx]
  refine qtu (i := 55) rfl rfl hHeld ?_
  simp only [zt,zs,zz,Act.put,zi,zy,zx]
  refine qtu (i := 56) rfl rfl hHeld ?_
  simp only [zt,zs,zz,Act.put,zi,zy,zx]
  refine qtu (i := 57) rfl rfl hHeld ?_
  simp only [zt,zs,zz,Act.put,zi,zy,zx]
  refine qtu (i := 58) rfl rfl hHeld ?_
  simp only [zt,zs,zz,Act.put,zi,zy,zx]
  refine qtu (i := 59) rfl rfl hHeld ?_
  simp only [zt,zs,zz,Act.put,zi,zy,zx]
  refine qtu (i := 60) rfl rfl hHeld ?_
  simp only [zt,zs,zz,Act.put,zi,zy,zx]
  refine qtk (i := 61) (v := Value.bool false) rfl rfl (fun w' hw' => ?_) hHeld ?_
  · go_simp; try omega
  simp only [zt,zs,zz,Act.put,zi,zy,zx]
  refine qtk (i := 62) (v := Value.bool false) rfl rfl (fun w' hw' => ?_) hHeld ?_
  · go_simp; try omega
  simp only [zt,zs,zz,Act.put,zi,zy,zx]
  refine wpAnyH_done (by kernel_rfl) ?_ _
  refine NoPanic.normal ?_
  clear hHeld
  clear HC HS0
  go_upto_region 18 with fail
  obtain ⟨pp, hpp⟩ : ∃ pp, pp = p + 2 := ⟨_, rfl⟩
  have e11 : IntKind.i64.wrap ((p : Int) + 2) = (pp : Int) := by rw [hpp, e10]; omega
  have hpps : pp ≤ s.size := by omega
  have hppp : p ≤ pp := by omega
  clear e10
  have hgx : g < X2.drew.heap.size := HR.out.lt
  have FP := Lib.hid (put3_any g s p es out (.mk 2 ⟨#[35, s[p + 1]'hp1]⟩ [] [] p) 2 ⟨#[35, s[p + 1]'hp1]⟩ none 0 0 none 0 0 p p X2.drew (HS.out.drew HR.out.lt).rd hgx (by rw [At_mk]; exact ⟨_, _, rfl, .inl ⟨rfl, rfl⟩, .inl ⟨rfl, rfl⟩⟩) HB.out (by omega))
  have HCT : Hid (s.extract p pp = ⟨#[35, s[p + 1]'hp1]⟩) := by rw [hpp]; exact cut_two hp (by rw [HBB.out]; exact HBV.out) hp1
  have HN : Hid (nxt s p b es out = (0, pp, (putS (.mk 2 ⟨#[35, s[p + 1]'hp1]⟩ [] [] p) es out).1, (putS (.mk 2 ⟨#[35, s[p + 1]'hp1]⟩ [] [] p) es out).2)) := by rw [hpp]; exact HN.out
  clear hgx hpp
  have HC : Hid (∀ w', Below X2.heap.size X2 w' → w'.cell? ⟨g, 0, none⟩ = some (.string s) ∧ w'.cell? ⟨g, 1, none⟩ = some (.int .i64 (p : Int)) ∧ w'.cell? ⟨g, 2, none⟩ = some (.slice ao es.length c) ∧ w'.cell? ⟨g, 3, none⟩ = some dv) := fun w' hw' => by
    have h9 : w'.heap[g]? = some (.cells #[.string s, .int .i64 (p : Int), .slice ao es.length c, dv] 114 (0, 0)) := by rw [hw'.block g HR.out.lt]; exact HR.out
    exact Rs3.cells (p := p) h9
  have HS0 : Hid (Below X2.heap.size X2 X2.drew) := (Below.refl _ _).drew
  replace HS : Hid (Stt D g s p es out w X2.drew) := HS.out.drew HR.out.lt
  replace HR : Hid (Rs3 X2.drew g s p (.slice ao es.length c) dv) := HR.out
  refine wp_region_noPanic ?_
  refine wp_region_late (S := Below X2.heap.size X2) (fun i => i == 20) (by kernel_rfl) HS0.out (fun hHeld => ?_)
  generalize X2.drew = X3 at HS0 HS HR FP hHeld ⊢
  refine wpAnyL_take (B := [20]) (i := 0) (v := ?v691) rfl (by kernel_rfl) (by kernel_rfl) (by kernel_rfl) (by kernel_rfl) (fun _ _ _ h => h) (Or.inl ⟨rfl, fun w' hw' => ?h691⟩) hHeld ?r691
  case h691 => go_simp; try with_reducible rfl
  simp only [zt,zs,zz,Act.put,zi,zy,zx]
  refine wpAnyL_take (B := [2, 3, 4, 14, 19, 20]) (i := 1) (v := ?v693) rfl (by kernel_rfl) (by kernel_rfl) (by kernel_rfl) (by kernel_rfl) (fun _ _ _ h => h) (Or.inl ⟨rfl, fun w' hw' => ?h693⟩) hHeld ?r693
  case h693 => go_simp; try with_reducible rfl
  simp only [zt,zs,zz,Act.put,zi,zy,zx]
  refine wpAnyL_take (B := [3, 4, 14, 19, 20]) (i := 2) (v := ?v695) rfl (by kernel_rfl) (by kernel_rfl) (by kernel_rfl) (by kernel_rfl) (fun _ _ _ h => h) (Or.inl ⟨rfl, fun w' hw' => ?h695⟩) hHeld ?r695
  case h695 => go_simp; try with_reducible rfl
  simp only [zt,zs,zz,Act.put,zi,zy,zx]
  refine wpAnyL_take (B := [4, 14, 19, 20]) (i := 3) (v := ?v697) rfl (by kernel_rfl) (by kernel_rfl) (by kernel_rfl) (by kernel_rfl) (fun _ _ _ h => h) (Or.inl ⟨rfl, fun w' hw' => ?h697⟩) hHeld ?r697
  case h697 => go_simp; try with_reducible rfl
  simp only [zt,zs,zz,Act.put,zi,zy,zx]
  refine wpAnyL_take (B := [14, 19, 20]) (i := 4) (v := ?v699) rfl (by kernel_rfl) (by kernel_rfl) (by kernel_rfl) (by kernel_rfl) (fun _ _ _ h => h) (Or.inl ⟨rfl, fun w' hw' => ?h699⟩) hHeld ?r699
  case h699 => (obtain ⟨d0, d1, d2, d3⟩ := HC.out w' hw'; go_simp); try with_reducible rfl
  simp only [zt,zs,zz,Act.put,zi,zy,zx]
  refine wpAnyL_take (B := [6, 7, 8, 14, 19, 20]) (i := 5) (v := ?v701) rfl (by kernel_rfl) (by kernel_rfl) (by kernel_rfl) (by kernel_rfl) (fun _ _ _ h => h) (Or.inl ⟨rfl, fun w' hw' => ?h701⟩) hHeld ?r701
  case h701 => go_simp; try with_reducible rfl
  simp only [zt,zs,zz,Act.put,zi,zy,zx]
  refine wpAnyL_take (B := [7, 8, 14, 19, 20]) (i := 6) (v := ?v703) rfl (by kernel_rfl) (by kernel_rfl) (by kernel_rfl) (by kernel_rfl) (fun _ _ _ h => h) (Or.inl ⟨rfl, fun w' hw' => ?h703⟩) hHeld ?r703
  case h703 => go_simp; try with_reducible rfl
  simp only [zt,zs,zz,Act.put,zi,zy,zx]
  refine wpAnyL_take (B := [8, 14, 19, 20]) (i := 7) (v := ?v705) rfl (by kernel_rfl) (by kernel_rfl) (by kernel_rfl) (by kernel_rfl) (fun _ _ _ h => h) (Or.inl ⟨rfl, fun w' hw' => ?h705⟩) hHeld ?r705
  case h705 => go_simp; try with_reducible rfl
  simp only [zt,zs,zz,Act.put,zi,zy,zx]
  refine wpAnyL_take (B := [14, 19, 20]) (i := 8) (v := ?v707) rfl (by kernel_rfl) (by kernel_rfl) (by kernel_rfl) (by kernel_rfl) (fun _ _ _ h => h) (Or.inl ⟨rfl, fun w' hw' => ?h707⟩) hHeld ?r707
  case h707 => (obtain ⟨d0, d1, d2, d3⟩ := HC.out w' hw'; go_simp); try with_reducible rfl
  simp only [zt,zs,zz,Act.put,zi,zy,zx]
  refine wpAnyL_take (B := [10, 11, 12, 13, 14, 19, 20]) (i := 9) (v := ?v709) rfl (by kernel_rfl) (by kernel_rfl) (by kernel_rfl) (by kernel_rfl) (fun _ _ _ h => h) (Or.inl ⟨rfl, fun w' hw' => ?h709⟩) hHeld ?r709
  case h709 => go_simp; try with_reducible rfl
  simp only [zt,zs,zz,Act.put,zi,zy,zx]
  refine wpAnyL_take (B := [11, 12, 13, 14, 19, 20]) (i := 10) (v := ?v711) rfl (by kernel_rfl) (by kernel_rfl) (by kernel_rfl) (by kernel_rfl) (fun _ _ _ h => h) (Or.inl ⟨rfl, fun w' hw' => ?h711⟩) hHeld ?r711
  case h711 => go_simp; try with_reducible rfl
  simp only [zt,zs,zz,Act.put,zi,zy,zx]
  refine wpAnyL_take (B := [12, 13, 14, 19, 20]) (i := 11) (v := ?v713) rfl (by kernel_rfl) (by kernel_rfl) (by kernel_rfl) (by kernel_rfl) (fun _ _ _ h => h) (Or.inl ⟨rfl, fun w' hw' => ?h713⟩) hHeld ?r713
  case h713 => go_simp; try with_reducible rfl
  simp only [zt,zs,zz,Act.put,zi,zy,zx]
  refine wpAnyL_take (B := [13, 14, 19, 20]) (i := 12) (v := ?v715) rfl (by kernel_rfl) (by kernel_rfl) (by kernel_rfl) (by kernel_rfl) (fun _ _ _ h => h) (Or.inl ⟨rfl, fun w' hw' => ?h715⟩) hHeld ?r715
  case h715 => (obtain ⟨d0, d1, d2, d3⟩ := HC.out w' hw'; go_simp); try with_reducible rfl
  simp only [zt,zs,zz,Act.put,zi,zy,zx]
  refine wpAnyL_take (B := [14, 19, 20]) (i := 13) (v := Value.int .i64 (pp : Int)) rfl (by kernel_rfl) (by kernel_rfl) (by kernel_rfl) (by kernel_rfl) (fun _ _ _ h => h) (Or.inl ⟨rfl, fun w' hw' => ?_⟩) hHeld ?_
  · go_simp
  simp only [zt,zs,zz,Act.put,zi,zy,zx]
  refine wpAnyL_take (B := [19, 20]) (i := 14) (v := Value.string (s.extract p pp)) rfl (by kernel_rfl) (by kernel_rfl) (by kernel_rfl) (by kernel_rfl) (fun _ _ _ h => h) (Or.inl ⟨rfl, fun w' hw' => ?_⟩) hHeld ?_
  · go_simp; try omega
  simp only [zt,zs,zz,Act.put,zi,zy,zx]
  rw [HCT.out]
  refine wpAnyL_take (B := [16, 17, 18, 19, 20]) (i := 15) (v := ?v721) rfl (by kernel_rfl) (by kernel_rfl) (by kernel_rfl) (by kernel_rfl) (fun _ _ _ h => h) (Or.inl ⟨rfl, fun w' hw' => ?h721⟩) hHeld ?r721
  case h721 => go_simp; try with_reducible rfl
  simp only [zt,zs,zz,Act.put,zi,zy,zx]
  refine wpAnyL_take (B := [17, 18, 19, 20]) (i := 16) (v := ?v723) rfl (by kernel_rfl) (by kernel_rfl) (by kernel_rfl) (by kernel_rfl) (fun _ _ _ h => h) (Or.inl ⟨rfl, fun w' hw' => ?h723⟩) hHeld ?r723
  case h723 => go_simp; try with_reducible rfl
  simp only [zt,zs,zz,Act.put,zi,zy,zx]
  refine wpAnyL_take (B := [18, 19, 20]) (i := 17) (v := ?v725) rfl (by kernel_rfl) (by kernel_rfl) (by kernel_rfl) (by kernel_rfl) (fun _ _ _ h => h) (Or.inl ⟨rfl, fun w' hw' => ?h725⟩) hHeld ?r725
  case h725 => go_simp; try with_reducible rfl
  simp only [zt,zs,zz,Act.put,zi,zy,zx]
  refine wpAnyL_take (B := [19, 20]) (i := 18) (v := ?v727) rfl (by kernel_rfl) (by kernel_rfl) (by kernel_rfl) (by kernel_rfl) (fun _ _ _ h => h) (Or.inl ⟨rfl, fun w' hw' => ?h727⟩) hHeld ?r727
  case h727 => (obtain ⟨d0, d1, d2, d3⟩ := HC.out w' hw'; go_simp); try with_reducible rfl
  simp only [zt,zs,zz,Act.put,zi,zy,zx]
  refine wpAnyL_take (B := [20]) (i := 19) (v := ?v729) rfl (by kernel_rfl) (by kernel_rfl) (by kernel_rfl) (by kernel_rfl) (fun _ _ _ h => h) (Or.inl ⟨rfl, fun w' hw' => ?h729⟩) hHeld ?r729
  case h729 => go_simp; try with_reducible rfl
  simp only [zt,zs,zz,Act.put,zi,zy,zx]
  refine wpAnyL_ready (rs := [20]) (by kernel_rfl) (by simp) ?_
  refine (AllL.last (S2 := fun _ => True) rfl rfl (fun K hK => ?_) AllL.nil)
  go_simp
  refine FP.out.mono ?_
  rintro e7 w7 ⟨rfl, hbl, hsz, D7, hD7⟩
  have HB7 := Lib.hid hbl
  have HZ7 := Lib.hid hsz
  have HD7 := Lib.hid hD7
  clear hbl hsz hD7
  refine hK.out _ _ trivial (fun hHeld => ?_)
  clear hK K
  try simp only [zt,zs,zz,Act.put,zi,zy,zx]
  refine wpAnyH_done (by kernel_rfl) ?_ _
  refine NoPanic.normal ?_
  clear hHeld
  clear HC HS0
  have HLO : Hid (Below g w w7) := HS.out.low.trans HB7.out
  have HSZ : Hid (w.heap.size ≤ w7.heap.size) := by have h1 := HS.out.size; have h2 := HZ7.out; show _ ≤ _; omega
  obtain ⟨ao3, c3, bo3, dd3, hf3⟩ := HD7.out.form
  have d1 := hf3.cells.2.1
  have fz := hf3.frozen 1
  have HRD := Lib.hid (HD7.out.setP pp)
  have HL1 : Hid (Below g w (w7.setCell ⟨g, 1, none⟩ (.int .i64 (pp : Int)))) := HLO.out.setCell (p := ⟨g, 1, none⟩) (Nat.le_refl _) _
  have hz : (w7.setCell ⟨g, 1, none⟩ (.int .i64 (pp : Int))).heap.size = w7.heap.size := by simp [World.setCell]
  have HZ1 := Lib.hid hz
  clear hf3 hz HD7 FP HS HR
  go_wp2_with fail
  go_ret
  have hn := HN.out
  unfold RetNx
  rw [hn]
  exact ⟨rfl, HL1.out, by rw [HZ1.out]; exact HSZ.out, fun _ => ⟨D7, by rw [HZ1.out]; exact HRD.out⟩, fun h => absurd rfl h⟩
end Go.Proofs.Ythhaegncnoekbaa
namespace Go.Proofs.Ythhaegncnoekbaa
open Go.RowKit Go.BigM
set_option maxHeartbeats 16000000 in
set_option maxRecDepth 100000 in
theorem next_sign {D : Nat → Prop} (g : Nat) (s : ByteArray) (p : Nat) (es : List En) (out : List Dt) (b : UInt8) (w : World) (h : RdAt D w.heap.size w g s p es out) (hgN : g < w.heap.size) (hp : p < s.size) (hb : s[p] = b) (hs : s.size ≤ 8000) (hB : Bnd es out p) (hne : b ≠ 40 ∧ b ≠ 39 ∧ b ≠ 41 ∧ b ≠ 35) (hsg : sset.contains b = true) :
    Calls Try.prog 64 #[.pointer (some ⟨g, 0, none⟩)] w (RetNx g s p b es out w) := by
  obtain ⟨ao, c, bo, dd, hf⟩ := h.form
  obtain ⟨dv, hdv⟩ : ∃ v, v = Value.slice bo out.length dd := ⟨_, rfl⟩
  rw [← hdv] at hf
  have HS := Lib.hid (Stt.start h)
  have HR := Lib.hid hf
  have HB := Lib.hid hB
  have HBB := Lib.hid hb
  have hel : es.length ≤ 60 := hB.2.2
  clear h hB hdv hf hb
  have HNE : Hid (b ≠ 40 ∧ b ≠ 39 ∧ b ≠ 41 ∧ b ≠ 35) := hne
  have n1 : b.toNat ≠ 40 := fun e => hne.1 (u8_is b 40 e)
  have n2 : b.toNat ≠ 39 := fun e => hne.2.1 (u8_is b 39 e)
  have n3 : b.toNat ≠ 41 := fun e => hne.2.2.1 (u8_is b 41 e)
  have n4 : b.toNat ≠ 35 := fun e => hne.2.2.2 (u8_is b 35 e)
  have E40 : ((b.toNat : Int) == 40) = false := by simpa using (show ¬ (b.toNat : Int) = 40 by omega)
  have E39 : ((b.toNat : Int) == 39) = false := by simpa using (show ¬ (b.toNat : Int) = 39 by omega)
  have E41 : ((b.toNat : Int) == 41) = false := by simpa using (show ¬ (b.toNat : Int) = 41 by omega)
  have E35 : ((b.toNat : Int) == 35) = false := by simpa using (show ¬ (b.toNat : Int) = 35 by omega)
  clear hne n1 n2 n3 n4
  go_enter Try.func64, Try.ntmps64
  go_upto_region 1 with fail
  have HC : Hid (∀ w', Below w.heap.size w w' → w'.cell? ⟨g, 0, none⟩ = some (.string s) ∧ w'.cell? ⟨g, 1, none⟩ = some (.int .i64 (p : Int)) ∧ w'.cell? ⟨g, 2, none⟩ = some (.slice ao es.length c) ∧ w'.cell? ⟨g, 3, none⟩ = some dv) := fun w' hw' => by
    have h9 : w'.heap[g]? = some (.cells #[.string s, .int .i64 (p : Int), .slice ao es.length c, dv] 114 (0, 0)) := by rw [hw'.block g HR.out.lt]; exact HR.out
    exact Rs3.cells (p := p) h9
  have HS0 : Hid (Below w.heap.size w w.drew) := (Below.refl _ _).drew
  replace HS : Hid (Stt D g s p es out w w.drew) := HS.out.drew HR.out.lt
  replace HR : Hid (Rs3 w.drew g s p (.slice ao es.length c) dv) := HR.out
  refine wp_region_noPanic ?_
  refine wp_region_held_drew (S := Below w.heap.size w) (by kernel_rfl) HS0.out (fun hHeld => ?_)
  generalize w.drew = X1 at HS0 HS HR hHeld ⊢
  refine qtk (i := 0) (v := ?v740) rfl rfl (fun w' hw' => ?h740) hHeld ?r740
  case h740 => go_simp; try with_reducible rfl
  simp only [zt,zs,zz,Act.put,zi,zy,zx]
  refine qtk (i := 1) (v := ?v741) rfl rfl (fun w' hw' => ?h741) hHeld ?r741
  case h741 => go_simp; try with_reducible rfl
  simp only [zt,zs,zz,Act.put,zi,zy,zx]
  refine qtk (i := 2) (v := ?v742) rfl rfl (fun w' hw' => ?h742) hHeld ?r742
  case h742 => go_simp; try with_reducible rfl
  simp only [zt,zs,zz,Act.put,zi,zy,zx]
  refine qtk (i := 3) (v := ?v743) rfl rfl (fun w' hw' => ?h743) hHeld ?r743
  case h743 => (obtain ⟨d0, d1, d2, d3⟩ := HC.out w' hw'; go_simp); try with_reducible rfl
  simp only [zt,zs,zz,Act.put,zi,zy,zx]
  refine qtk (i := 4) (v := ?v744) rfl rfl (fun w' hw' => ?h744) hHeld ?r744
  case h744 => go_simp; try with_reducible rfl
  simp only [zt,zs,zz,Act.put,zi,zy,zx]
  refine qtk (i := 5) (v := ?v745) rfl rfl (fun w' hw' => ?h745) hHeld ?r745
  case h745 => go_simp; try with_reducible rfl
  simp only [zt,zs,zz,Act.put,zi,zy,zx]
  refine qtk (i := 6) (v := ?v746) rfl rfl (fun w' hw' => ?h746) hHeld ?r746
  case h746 => go_simp; try with_reducible rfl
  simp only [zt,zs,zz,Act.put,zi,zy,zx]
  refine qtk (i := 7) (v := ?v747) rfl rfl (fun w' hw' => ?h747) hHeld ?r747
  case h747 => (obtain ⟨d0, d1, d2, d3⟩ := HC.out w' hw'; go_simp); try with_reducible rfl
  simp only [zt,zs,zz,Act.put,zi,zy,zx]
  refine qtk (i := 8) (v := Value.int .u8 ((s[p]'hp).toNat : Int)) rfl rfl (fun w' hw' => ?_) hHeld ?_
  · go_simp
  simp only [zt,zs,zz,Act.put,zi,zy,zx]
  refine qtk (i := 9) (v := ?v749) rfl rfl (fun w' hw' => ?h749) hHeld ?r749
  case h749 => go_simp; try with_reducible rfl
  simp only [zt,zs,zz,Act.put,zi,zy,zx]
  refine wpAnyH_done (by kernel_rfl) ?_ _
  refine NoPanic.normal ?_
  clear hHeld
  clear HC HS0
  rw [HBB.out]
  have FR := Lib.hid (row3_any g s p es out b X1 HS.out.rd HR.out.lt hp HBB.out hsg hs HB.out)
  have HSG := Lib.hid hsg
  have FS : Hid (∀ w, Calls Try.prog 85 #[.int .u8 (b.toNat : Int)] w fun e w' => e = .returned (.bool true) ∧ w = w') := fun w => hsg ▸ sign_any b w
  clear hsg
  go_wp2_with fail
  refine (FS.out _).mono ?_
  rintro e w' ⟨rfl, rfl⟩
  go_wp2_with fail
  refine FR.out.mono ?_
  rintro e7 w7 ⟨rfl, hbl, hsz, hz0, hz1⟩
  have HB7 := Lib.hid hbl
  have HZ7 := Lib.hid hsz
  have HA := Lib.hid hz0
  have HBZ := Lib.hid hz1
  obtain ⟨ec, hec⟩ : ∃ ec, ec = (nxt s p b es out).1 := ⟨_, rfl⟩
  rw [← hec]
  have HEC := Lib.hid hec
  clear hbl hsz hz0 hz1 hec
  go_wp2_with fail
  go_ret
  unfold RetNx
  rw [← HEC.out]
  exact ⟨rfl, HS.out.low.trans HB7.out, by have h1 := HS.out.size; have h2 := HZ7.out; omega, fun h => HA.out (by rw [← HEC.out]; exact h), fun h => HBZ.out (by rw [← HEC.out]; exact h)⟩
set_option maxHeartbeats 16000000 in
set_option maxRecDepth 100000 in
theorem next_none {D : Nat → Prop} (g : Nat) (s : ByteArray) (p : Nat) (es : List En) (out : List Dt) (b : UInt8) (w : World) (h : RdAt D w.heap.size w g s p es out) (hgN : g < w.heap.size) (hp : p < s.size) (hb : s[p] = b) (hs : s.size ≤ 8000) (hB : Bnd es out p) (hne : b ≠ 40 ∧ b ≠ 39 ∧ b ≠ 41 ∧ b ≠ 35) (hsg : sset.contains b = false) :
    Calls Try.prog 64 #[.pointer (some ⟨g, 0, none⟩)] w (RetNx g s p b es out w) := by
  obtain ⟨ao, c, bo, dd, hf⟩ := h.form
  obtain ⟨dv, hdv⟩ : ∃ v, v = Value.slice bo out.length dd := ⟨_, rfl⟩
  rw [← hdv] at hf
  have HS := Lib.hid (Stt.start h)
  have HR := Lib.hid hf
  have HB := Lib.hid hB
  have HBB := Lib.hid hb
  have hel : es.length ≤ 60 := hB.2.2
  clear h hB hdv hf hb
  have HNE : Hid (b ≠ 40 ∧ b ≠ 39 ∧ b ≠ 41 ∧ b ≠ 35) := hne
  have n1 : b.toNat ≠ 40 := fun e => hne.1 (u8_is b 40 e)
  have n2 : b.toNat ≠ 39 := fun e => hne.2.1 (u8_is b 39 e)
  have n3 : b.toNat ≠ 41 := fun e => hne.2.2.1 (u8_is b 41 e)
  have n4 : b.toNat ≠ 35 := fun e => hne.2.2.2 (u8_is b 35 e)
  have E40 : ((b.toNat : Int) == 40) = false := by simpa using (show ¬ (b.toNat : Int) = 40 by omega)
  have E39 : ((b.toNat : Int) == 39) = false := by simpa using (show ¬ (b.toNat : Int) = 39 by omega)
  have E41 : ((b.toNat : Int) == 41) = false := by simpa using (show ¬ (b.toNat : Int) = 41 by omega)
  have E35 : ((b.toNat : Int) == 35) = false := by simpa using (show ¬ (b.toNat : Int) = 35 by omega)
  clear hne n1 n2 n3 n4
  go_enter Try.func64, Try.ntmps64
  go_upto_region 1 with fail
  have HC : Hid (∀ w', Below w.heap.size w w' → w'.cell? ⟨g, 0, none⟩ = some (.string s) ∧ w'.cell? ⟨g, 1, none⟩ = some (.int .i64 (p : Int)) ∧ w'.cell? ⟨g, 2, none⟩ = some (.slice ao es.length c) ∧ w'.cell? ⟨g, 3, none⟩ = some dv) := fun w' hw' => by
    have h9 : w'.heap[g]? = some (.cells #[.string s, .int .i64 (p : Int), .slice ao es.length c, dv] 114 (0, 0)) := by rw [hw'.block g HR.out.lt]; exact HR.out
    exact Rs3.cells (p := p) h9
  have HS0 : Hid (Below w.heap.size w w.drew) := (Below.refl _ _).drew
  replace HS : Hid (Stt D g s p es out w w.drew) := HS.out.drew HR.out.lt
  replace HR : Hid (Rs3 w.drew g s p (.slice ao es.length c) dv) := HR.out
  refine wp_region_noPanic ?_
  refine wp_region_held_drew (S := Below w.heap.size w) (by kernel_rfl) HS0.out (fun hHeld => ?_)
  generalize w.drew = X1 at HS0 HS HR hHeld ⊢
  refine qtk (i := 0) (v := ?v750) rfl rfl (fun w' hw' => ?h750) hHeld ?r750
  case h750 => go_simp; try with_reducible rfl
  simp only [zt,zs,zz,Act.put,zi,zy,zx]
  refine qtk (i := 1) (v := ?v751) rfl rfl (fun w' hw' => ?h751) hHeld ?r751
  case h751 => go_simp; try with_reducible rfl
  simp only [zt,zs,zz,Act.put,zi,zy,zx]
  refine qtk (i := 2) (v := ?v752) rfl rfl (fun w' hw' => ?h752) hHeld ?r752
  case h752 => go_simp; try with_reducible rfl
  simp only [zt,zs,zz,Act.put,zi,zy,zx]
  refine qtk (i := 3) (v := ?v753) rfl rfl (fun w' hw' => ?h753) hHeld ?r753
  case h753 => (obtain ⟨d0, d1, d2, d3⟩ := HC.out w' hw'; go_simp); try with_reducible rfl
  simp only [zt,zs,zz,Act.put,zi,zy,zx]
  refine qtk (i := 4) (v := ?v754) rfl rfl (fun w' hw' => ?h754) hHeld ?r754
  case h754 => go_simp; try with_reducible rfl
  simp only [zt,zs,zz,Act.put,zi,zy,zx]
  refine qtk (i := 5) (v := ?v755) rfl rfl (fun w' hw' => ?h755) hHeld ?r755
  case h755 => go_simp; try with_reducible rfl
  simp only [zt,zs,zz,Act.put,zi,zy,zx]
  refine qtk (i := 6) (v := ?v756) rfl rfl (fun w' hw' => ?h756) hHeld ?r756
  case h756 => go_simp; try with_reducible rfl
  simp only [zt,zs,zz,Act.put,zi,zy,zx]
  refine qtk (i := 7) (v := ?v757) rfl rfl (fun w' hw' => ?h757) hHeld ?r757
  case h757 => (obtain ⟨d0, d1, d2, d3⟩ := HC.out w' hw'; go_simp); try with_reducible rfl
  simp only [zt,zs,zz,Act.put,zi,zy,zx]
  refine qtk (i := 8) (v := Value.int .u8 ((s[p]'hp).toNat : Int)) rfl rfl (fun w' hw' => ?_) hHeld ?_
  · go_simp
  simp only [zt,zs,zz,Act.put,zi,zy,zx]
  refine qtk (i := 9) (v := ?v759) rfl rfl (fun w' hw' => ?h759) hHeld ?r759
  case h759 => go_simp; try with_reducible rfl
  simp only [zt,zs,zz,Act.put,zi,zy,zx]
  refine wpAnyH_done (by kernel_rfl) ?_ _
  refine NoPanic.normal ?_
  clear hHeld
  clear HC HS0
  rw [HBB.out]
  have HN : Hid (nxt s p b es out = (3, p, es, out)) := by
    show _ = _
    have hl := drop_at s p hp
    rw [HBB.out] at hl
    refine nxt_tok HNE.out.1 HNE.out.2.1 HNE.out.2.2.1 (r := none) ?_
    rw [hl]
    unfold tokOf
    have h35 : (35 : UInt8) ≠ b := fun e => HNE.out.2.2.2 e.symm
    rw [if_neg (by simp [Lib.hasPrefix, List.isPrefixOf, h35])]
    rw [if_pos (by unfold rowOf; rw [List.takeWhile_cons, hsg]; rfl)]
  have FS : Hid (∀ w, Calls Try.prog 85 #[.int .u8 (b.toNat : Int)] w fun e w' => e = .returned (.bool false) ∧ w = w') := fun w => hsg ▸ sign_any b w
  clear hsg
  go_wp2_with fail
  refine (FS.out _).mono ?_
  rintro e w' ⟨rfl, rfl⟩
  go_wp2_with fail
  go_ret
  have hn := HN.out
  unfold RetNx
  rw [hn]
  exact ⟨rfl, HS.out.low, HS.out.size, fun h => absurd h (by simp), fun _ => ⟨_, _, HR.out⟩⟩
theorem next_any {D : Nat → Prop} (g : Nat) (s : ByteArray) (p : Nat) (es : List En) (out : List Dt) (b : UInt8) (w : World) (h : RdAt D w.heap.size w g s p es out) (hgN : g < w.heap.size) (hp : p < s.size) (hb : s[p] = b) (hs : s.size ≤ 8000) (hB : Bnd es out p) :
    Calls Try.prog 64 #[.pointer (some ⟨g, 0, none⟩)] w (RetNx g s p b es out w) := by
  by_cases h1 : b = 40
  · exact next_open40 g s p es out b w h hgN hp hb hs hB h1
  by_cases h2 : b = 39
  · exact next_open39 g s p es out b w h hgN hp hb hs hB h2
  by_cases h3 : b = 41
  · exact next_close g s p es out b w h hgN hp hb hs hB h3
  by_cases h4 : b = 35
  · by_cases hp1 : p + 1 < s.size
    · by_cases h116 : (s[p + 1]'hp1).toNat = 116
      · by_cases hp2 : p + 2 < s.size
        · cases hsg : sset.contains (s[p + 2]'hp2) with
          | true => exact next_hash_C1 g s p es out b w h hgN hp hb hs hB h4 hp1 h116 hp2 hsg
          | false => exact next_hash_C2 g s p es out b w h hgN hp hb hs hB h4 hp1 h116 hp2 hsg
        · exact next_hash_C3 g s p es out b w h hgN hp hb hs hB h4 hp1 h116 hp2
      · by_cases h102 : (s[p + 1]'hp1).toNat = 102
        · by_cases hp2 : p + 2 < s.size
          · cases hsg : sset.contains (s[p + 2]'hp2) with
            | true => exact next_hash_D1 g s p es out b w h hgN hp hb hs hB h4 hp1 h116 h102 hp2 hsg
            | false => exact next_hash_D2 g s p es out b w h hgN hp hb hs hB h4 hp1 h116 h102 hp2 hsg
          · exact next_hash_D3 g s p es out b w h hgN hp hb hs hB h4 hp1 h116 h102 hp2
        · exact next_hash_B g s p es out b w h hgN hp hb hs hB h4 hp1 h116 h102
    · exact next_hash_A g s p es out b w h hgN hp hb hs hB h4 hp1
  cases h5 : sset.contains b with
  | true => exact next_sign g s p es out b w h hgN hp hb hs hB ⟨h1, h2, h3, h4⟩ h5
  | false => exact next_none g s p es out b w h hgN hp hb hs hB ⟨h1, h2, h3, h4⟩ h5
end Go.Proofs.Ythhaegncnoekbaa
namespace Go.Proofs.Ythhaegncnoekbaa
open Go.RowKit Go.BigM
def RdI (g : Nat) (s : ByteArray) (R : Rs) (w wr : World) : Prop := ∃ (D : Nat → Prop) (p : Nat) (es : List En) (out : List Dt) (e : En) (r : List En) (n : Nat),
  RdAt D wr.heap.size wr g s p es out ∧ Below g w wr ∧ g < wr.heap.size ∧ p ≤ s.size ∧ Bnd es out p ∧ e :: r = stk es out ∧ rd s.data.toList n .next p e r = some R
theorem RdAt.out_lat {D : Nat → Prop} {N : Nat} {w : World} {g : Nat} {s : ByteArray} {p : Nat} {es : List En} {out : List Dt} (h : RdAt D N w g s p es out) {ov dv : Value} (hr : Rs3 w g s p ov dv) : LAt (fun x => g ≤ x) w dv out := by
  obtain ⟨ov2, dv2, xs, hR, ho, hd, hD, _⟩ := h
  unfold Rs3 at hr hR
  rw [hR] at hr
  injection hr with hr
  injection hr with hr _ _
  simp only [Array.mk.injEq, List.cons.injEq, and_true, true_and] at hr
  obtain ⟨_, rfl⟩ := hr
  exact hd.lat.mono (fun x hx => by
    rcases hx with h | h
    · have := (hD x h).1; omega
    · have := (hd.lt h).1; omega)
set_option maxHeartbeats 16000000 in
set_option maxRecDepth 100000 in
theorem ref_read_any (s : ByteArray) (w : World) (hs : s.size ≤ 8000) (n : Nat) (R : Rs) (hR : rd s.data.toList n .next 0 ⟨0, false, []⟩ [] = some R) :
    Calls Try.prog 41 #[.string s] w (RetRead w R) := by
  have HST0 : Hid (RdI w.heap.size s R w (w.alloc (.cells #[.string s, .int .i64 0, .slice none 0 0, .slice none 0 0] 114))) :=
    ⟨_, 0, [], [], ⟨0, false, []⟩, [], n, by rw [show (w.alloc (.cells #[.string s, .int .i64 0, .slice none 0 0, .slice none 0 0] 114)).heap.size = w.heap.size + 1 by simp]; exact RdAt.start w s, (Below.refl _ _).alloc (Nat.le_refl _) _, by simp, Nat.zero_le _, ⟨fun x hx => absurd hx (by simp), by simp, by simp⟩, rfl, hR⟩
  have q0 : decide (8000 < (s.size : Int)) = false := decide_eq_false (by omega)
  clear hR
  go_enter Try.func41, Try.ntmps41
  go_wp2_with fail
  go_loopw [] (fun wr => RdI w.heap.size s R w wr) (fun wr => s.size - plc w.heap.size wr)
  case atStart => exact HST0.out
  case round =>
    clear HST0
    obtain ⟨D, p, es, out, e, r, n, hRD, hlow, hgl, hp, hB, hstk, hrd⟩ := hrel
    obtain ⟨ao, c, bo, dd, hf⟩ := hRD.form
    obtain ⟨q, hq⟩ : ∃ q, q = gapAt s false p := ⟨_, rfl⟩
    have FS := Lib.hid (skip_any w.heap.size s p _ _ wr hf hp (by omega))
    have HRD := Lib.hid hRD
    have HLOW := Lib.hid hlow
    have HB := Lib.hid hB
    have HSTK := Lib.hid hstk
    have HRDN := Lib.hid hrd
    have HPW := Lib.hid hf.plc
    have HF := Lib.hid hf
    have HQ := Lib.hid hq
    have hpq : p ≤ q := by rw [hq]; unfold gapAt; omega
    clear hRD hlow hB hstk hrd hf hq
    go_wp2_with fail
    refine FS.out.mono ?_
    rintro e' w1 ⟨rfl, hR1, hO1, hq1⟩
    rw [← HQ.out] at hR1 hq1
    have HR1 := Lib.hid hR1
    have HRD1 : Hid (RdAt D w1.heap.size w1 w.heap.size s q es out) := by
      show RdAt _ _ _ _ _ _ _ _
      rw [hO1.size]
      exact rd_moved HRD.out HF.out hO1 hR1
    have HLOW1 : Hid (Below w.heap.size w w1) := HLOW.out.trans (only_below hO1)
    have hgl1 : w.heap.size < w1.heap.size := by rw [hO1.size]; exact hgl
    have d1 := hR1.cells.2.1
    clear hR1 hO1 FS HRD HLOW HF hgl
    by_cases hlt : q < s.size
    · have q1 : decide ((s.size : Int) ≤ (q : Int)) = false := decide_eq_false (by omega)
      obtain ⟨b, hb⟩ : ∃ b, s[q]'hlt = b := ⟨_, rfl⟩
      have hbl : s.data.toList[q]? = some b := by rw [byte_at s q hlt, hb]
      obtain ⟨hne0, hok⟩ := rd_next HSTK.out (HQ.out ▸ rfl) hbl HRDN.out
      have FN := Lib.hid (next_any w.heap.size s q es out b w1 HRD1.out hgl1 hlt hb hs (HB.out.more hpq))
      have HNE := Lib.hid hne0
      have HOK := Lib.hid hok
      have HBQ := Lib.hid (fun h => nxt_bnd (b := b) hlt (HB.out.more hpq) h)
      obtain ⟨nx, hnx⟩ : ∃ nx, nx = nxt s q b es out := ⟨_, rfl⟩
      have HNX := Lib.hid hnx
      clear hne0 hok hb hbl hnx
      go_wp2_with fail
      refine FN.out.mono ?_
      rintro e' w2 ⟨rfl, hl2, hz2, hA, hE⟩
      rw [← HNX.out] at hA hE ⊢
      have HL2 := Lib.hid hl2
      have HZ2 := Lib.hid hz2
      have HA := Lib.hid hA
      have HE := Lib.hid hE
      obtain ⟨ec, eq2, es2, out2⟩ := nx
      simp only [] at HA HE ⊢
      clear hl2 hz2 hA hE d1 FN
      by_cases h0 : ec = 0
      · have E0 : (ec != 0) = false := by rw [h0]; rfl
        have HNX0 := HNX.out
        have hn1 : (nxt s q b es out).1 = 0 := by rw [← HNX0]; exact h0
        obtain ⟨m, e3, r3, hs3, hr3⟩ := HOK.out hn1
        obtain ⟨b1, b2, b3⟩ := HBQ.out hn1
        obtain ⟨D', hD'⟩ := HA.out h0
        rw [← HNX0] at hs3 hr3 b1 b2 b3
        simp only [] at hs3 hr3 b1 b2 b3
        have HFIN : Hid (RdI w.heap.size s R w w2) := ⟨D', eq2, es2, out2, e3, r3, m, hD', HLOW1.out.trans HL2.out, by have := HZ2.out; omega, b2, b3, hs3, hr3⟩
        obtain ⟨ao4, c4, bo4, dd4, hf4⟩ := hD'.form
        have HM := Lib.hid hf4.plc
        have HB1 := Lib.hid b1
        clear HNX0 hn1 hs3 hr3 b1 b2 b3 hD' hf4 h0
        go_wp2_with fail
        go_roundw
        case rel => exact HFIN.out
        case measure =>
          have h1 := HM.out
          have h2 := HPW.out
          have h3 := HB1.out
          omega
      · have E0 : (ec != 0) = true := by simpa [bne] using h0
        have HNX0 := HNX.out
        have hn1 : (nxt s q b es out).1 ≠ 0 := by rw [← HNX0]; exact h0
        have hR := HNE.out hn1
        rw [← HNX0] at hR
        obtain ⟨ov5, dv5, h5⟩ := HE.out h0
        have HRR := Lib.hid hR
        have d5 := h5.cells.2.1
        have HL5 : Hid (Below w.heap.size w w2) := HLOW1.out.trans HL2.out
        have H5 := Lib.hid h5
        have h5l := h5.lt
        clear HNX0 hn1 hR h5 h0
        go_upto_region 8 with fail
        have HC : Hid (∀ w', Below w2.heap.size w2 w' → w'.cell? ⟨w.heap.size, 1, none⟩ = some (.int .i64 (q : Int))) := fun w' hw' => (hw'.cell (p := ⟨w.heap.size, 1, none⟩) h5l).trans d5
        clear d5
        have HS0 : Hid (Below w2.heap.size w2 w2.drew) := (Below.refl _ _).drew
        have HL5 : Hid (Below w.heap.size w w2.drew) := HL5.out.trans ((Below.refl _ _).drew)
        refine wp_region_noPanic ?_
        refine wp_region_held_drew (S := Below w2.heap.size w2) (by kernel_rfl) HS0.out (fun hHeld => ?_)
        generalize w2.drew = X at HS0 HL5 hHeld ⊢
        refine qtk (i := 0) (v := ?v0) rfl rfl (fun w' hw' => ?h0) hHeld ?r0
        case h0 => go_simp; try with_reducible rfl
        simp only [zt,zs,zz,Act.put,zi,zy,zx]
        refine qtk (i := 1) (v := ?v1) rfl rfl (fun w' hw' => ?h1) hHeld ?r1
        case h1 => go_simp; try with_reducible rfl
        simp only [zt,zs,zz,Act.put,zi,zy,zx]
        refine qtk (i := 2) (v := ?v2) rfl rfl (fun w' hw' => ?h2) hHeld ?r2
        case h2 => go_simp; try with_reducible rfl
        simp only [zt,zs,zz,Act.put,zi,zy,zx]
        refine qtk (i := 3) (v := ?v3) rfl rfl (fun w' hw' => ?h3) hHeld ?r3
        case h3 => (have q9 := HC.out w' hw'; go_simp); try with_reducible rfl
        simp only [zt,zs,zz,Act.put,zi,zy,zx]
        refine qtk (i := 4) (v := ?v4) rfl rfl (fun w' hw' => ?h4) hHeld ?r4
        case h4 => go_simp; try with_reducible rfl
        simp only [zt,zs,zz,Act.put,zi,zy,zx]
        refine qtk (i := 5) (v := ?v5) rfl rfl (fun w' hw' => ?h5) hHeld ?r5
        case h5 => go_simp; try with_reducible rfl
        simp only [zt,zs,zz,Act.put,zi,zy,zx]
        refine qtk (i := 6) (v := ?v6) rfl rfl (fun w' hw' => ?h6) hHeld ?r6
        case h6 => go_simp; try with_reducible rfl
        simp only [zt,zs,zz,Act.put,zi,zy,zx]
        refine qtk (i := 7) (v := ?v7) rfl rfl (fun w' hw' => ?h7) hHeld ?r7
        case h7 => go_simp; try with_reducible rfl
        simp only [zt,zs,zz,Act.put,zi,zy,zx]
        refine wpAnyH_done (by kernel_rfl) ?_ _
        refine NoPanic.normal ?_
        clear hHeld
        go_wp2_with fail
        go_ret3
        rw [HRR.out]
        exact ⟨HL5.out, rfl⟩
    · have hqe : q = s.size := by omega
      have q1 : decide ((s.size : Int) ≤ (q : Int)) = true := decide_eq_true (by omega)
      have hbl : s.data.toList[q]? = none := by rw [List.getElem?_eq_none]; rw [← Lib.size_eq]; omega
      have hR := rd_over HSTK.out (HQ.out ▸ rfl) hbl HRDN.out
      have HRR := Lib.hid hR
      obtain ⟨ao6, c6, bo6, dd6, hf6⟩ := HRD1.out.form
      have d2 := hf6.cells.2.2.1
      have d3 := hf6.cells.2.2.2
      have HLAT := Lib.hid (HRD1.out.out_lat hf6)
      clear hbl hR hf6
      by_cases h0 : 0 < es.length
      · have q2 : decide (0 < (es.length : Int)) = true := decide_eq_true (by omega)
        have HR2 : Hid (R = .err 5 q) := by show _ = _; rw [HRR.out, if_pos h0]
        have HQE := Lib.hid hqe
        clear hqe
        go_wp2_with fail
        go_ret3
        rw [HR2.out, HQE.out]
        exact ⟨HLOW1.out, rfl⟩
      · have q2 : decide (0 < (es.length : Int)) = false := decide_eq_false (by omega)
        have HR2 : Hid (R = .ok out) := by show _ = _; rw [HRR.out, if_neg h0]
        have HQE := Lib.hid hqe
        clear hqe
        go_wp2_with fail
        go_ret3
        rw [HR2.out]
        exact ⟨HLOW1.out, _, rfl, HLAT.out⟩
end Go.Proofs.Ythhaegncnoekbaa
