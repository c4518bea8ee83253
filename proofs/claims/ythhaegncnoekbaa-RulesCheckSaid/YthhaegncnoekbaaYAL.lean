/- The document's reader: next: a boolean, case D1. -/
import Derived.Test.YthhaegncnoekbaaYAA
import Derived.Test.YthhaegncnoekbaaYAI
set_option linter.unusedVariables false
set_option linter.unusedSimpArgs false
namespace Go.Proofs.Ythhaegncnoekbaa
open Go.RowKit Go.BigM
set_option maxHeartbeats 16000000 in
set_option maxRecDepth 100000 in
theorem next_hash_D1 {D : Nat → Prop} (g : Nat) (s : ByteArray) (p : Nat) (es : List En) (out : List Dt) (b : UInt8) (w : World) (h : RdAt D w.heap.size w g s p es out) (hgN : g < w.heap.size) (hp : p < s.size) (hb : s[p] = b) (hs : s.size ≤ 8000) (hB : Bnd es out p) (hbv : b = 35) (hp1 : p + 1 < s.size) (h116 : ¬ (s[p + 1]'hp1).toNat = 116) (h102 : (s[p + 1]'hp1).toNat = 102) (hp2 : p + 2 < s.size) (hsg : sset.contains (s[p + 2]'hp2) = true) :
    Calls Try.prog 64 #[.pointer (some ⟨g, 0, none⟩)] w (RetNx g s p b es out w) := by
  obtain ⟨ao, c, bo, dd, hf⟩ := h.form
  obtain ⟨dv, hdv⟩ : ∃ v, v = Value.slice bo out.length dd := ⟨_, rfl⟩
  rw [← hdv] at hf
  have HS := Lib.hid (Stt.start h)
  have HR := Lib.hid hf
  have HB := Lib.hid hB
  have HBB := Lib.hid hb
  have hel : es.length ≤ 60 := hB.2.2
  clear h hB hdv hf hb
  have HBV := Lib.hid hbv
  have hbn : b.toNat = 35 := by rw [hbv]; rfl
  have HNE : Hid (b ≠ 40 ∧ b ≠ 39 ∧ b ≠ 41) := by show _ ∧ _; rw [hbv]; decide
  have E40 : ((b.toNat : Int) == 40) = false := by simpa using (show ¬ (b.toNat : Int) = 40 by omega)
  have E39 : ((b.toNat : Int) == 39) = false := by simpa using (show ¬ (b.toNat : Int) = 39 by omega)
  have E41 : ((b.toNat : Int) == 41) = false := by simpa using (show ¬ (b.toNat : Int) = 41 by omega)
  have E35 : ((b.toNat : Int) == 35) = true := by simpa using (show (b.toNat : Int) = 35 by omega)
  have e9 : IntKind.i64.wrap ((p : Int) + 1) = (p : Int) + 1 := by rw [IntKind.wrap_i64]; omega
  have e10 : IntKind.i64.wrap ((p : Int) + 2) = (p : Int) + 2 := by rw [IntKind.wrap_i64]; omega
  clear hbv hbn
  have q1 : decide ((s.size : Int) ≤ (p : Int) + 1) = false := decide_eq_false (by omega)
  have HCC : Hid (s[p + 1]'hp1 = 116 ∨ s[p + 1]'hp1 = 102) := .inr (u8_is _ 102 h102)
  have F116 : (((s[p + 1]'hp1).toNat : Int) == 116) = false := by rw [beq_eq_false_iff_ne]; omega
  have G116 : (((s[p + 1]'hp1).toNat : Int) != 116) = true := by simp [bne, F116]
  have F102 : (((s[p + 1]'hp1).toNat : Int) == 102) = true := by rw [beq_iff_eq]; omega
  have G102 : (((s[p + 1]'hp1).toNat : Int) != 102) = false := by simp [bne, F102]
  clear h116 h102
  have q2 : decide ((p : Int) + 2 < (s.size : Int)) = true := decide_eq_true (by omega)
  have HSG := Lib.hid hsg
  go_enter Try.func64, Try.ntmps64
  go_upto_region 1 with fail
  have HC : Hid (∀ w', Below w.heap.size w w' → w'.cell? ⟨g, 0, none⟩ = some (.string s) ∧ w'.cell? ⟨g, 1, none⟩ = some (.int .i64 (p : Int)) ∧ w'.cell? ⟨g, 2, none⟩ = some (.slice ao es.length c) ∧ w'.cell? ⟨g, 3, none⟩ = some dv) := fun w' hw' => by
    have h9 : w'.heap[g]? = some (.cells #[.string s, .int .i64 (p : Int), .slice ao es.length c, dv] 114 (0, 0)) := by rw [hw'.block g HR.out.lt]; exact HR.out
    exact Rs3.cells (p := p) h9
  have HS0 : Hid (Below w.heap.size w w.drew) := (Below.refl _ _).drew
  replace HS : Hid (Stt D g s p es out w w.drew) := HS.out.drew HR.out.lt
  replace HR : Hid (Rs3 w.drew g s p (.slice ao es.length c) dv) := HR.out
  refine wp_region_noPanic ?_
  refine wp_region_held_drew (S := Below w.heap.size w) (by kernel_rfl) HS0.out (fun hHeld => ?_)
  generalize w.drew = X1 at HS0 HS HR hHeld ⊢
  refine qtk (i := 0) (v := ?v505) rfl rfl (fun w' hw' => ?h505) hHeld ?r505
  case h505 => go_simp; try with_reducible rfl
  simp only [zt,zs,zz,Act.put,zi,zy,zx]
  refine qtk (i := 1) (v := ?v506) rfl rfl (fun w' hw' => ?h506) hHeld ?r506
  case h506 => go_simp; try with_reducible rfl
  simp only [zt,zs,zz,Act.put,zi,zy,zx]
  refine qtk (i := 2) (v := ?v507) rfl rfl (fun w' hw' => ?h507) hHeld ?r507
  case h507 => go_simp; try with_reducible rfl
  simp only [zt,zs,zz,Act.put,zi,zy,zx]
  refine qtk (i := 3) (v := ?v508) rfl rfl (fun w' hw' => ?h508) hHeld ?r508
  case h508 => (obtain ⟨d0, d1, d2, d3⟩ := HC.out w' hw'; go_simp); try with_reducible rfl
  simp only [zt,zs,zz,Act.put,zi,zy,zx]
  refine qtk (i := 4) (v := ?v509) rfl rfl (fun w' hw' => ?h509) hHeld ?r509
  case h509 => go_simp; try with_reducible rfl
  simp only [zt,zs,zz,Act.put,zi,zy,zx]
  refine qtk (i := 5) (v := ?v510) rfl rfl (fun w' hw' => ?h510) hHeld ?r510
  case h510 => go_simp; try with_reducible rfl
  simp only [zt,zs,zz,Act.put,zi,zy,zx]
  refine qtk (i := 6) (v := ?v511) rfl rfl (fun w' hw' => ?h511) hHeld ?r511
  case h511 => go_simp; try with_reducible rfl
  simp only [zt,zs,zz,Act.put,zi,zy,zx]
  refine qtk (i := 7) (v := ?v512) rfl rfl (fun w' hw' => ?h512) hHeld ?r512
  case h512 => (obtain ⟨d0, d1, d2, d3⟩ := HC.out w' hw'; go_simp); try with_reducible rfl
  simp only [zt,zs,zz,Act.put,zi,zy,zx]
  refine qtk (i := 8) (v := Value.int .u8 ((s[p]'hp).toNat : Int)) rfl rfl (fun w' hw' => ?_) hHeld ?_
  · go_simp
  simp only [zt,zs,zz,Act.put,zi,zy,zx]
  refine qtk (i := 9) (v := ?v514) rfl rfl (fun w' hw' => ?h514) hHeld ?r514
  case h514 => go_simp; try with_reducible rfl
  simp only [zt,zs,zz,Act.put,zi,zy,zx]
  refine wpAnyH_done (by kernel_rfl) ?_ _
  refine NoPanic.normal ?_
  clear hHeld
  clear HC HS0
  rw [HBB.out]
  have HN : Hid (nxt s p b es out = (3, p, es, out)) := by
    show _ = _
    rw [nxt_tok HNE.out.1 HNE.out.2.1 HNE.out.2.2 (by rw [hash_b hp (by rw [HBB.out]; exact HBV.out) hp1, if_neg (fun h => by have h1 := row_pos hp2 HSG.out; have h2 := h.2; omega)])]
  go_upto_region 16 with fail
  have HC : Hid (∀ w', Below X1.heap.size X1 w' → w'.cell? ⟨g, 0, none⟩ = some (.string s) ∧ w'.cell? ⟨g, 1, none⟩ = some (.int .i64 (p : Int)) ∧ w'.cell? ⟨g, 2, none⟩ = some (.slice ao es.length c) ∧ w'.cell? ⟨g, 3, none⟩ = some dv) := fun w' hw' => by
    have h9 : w'.heap[g]? = some (.cells #[.string s, .int .i64 (p : Int), .slice ao es.length c, dv] 114 (0, 0)) := by rw [hw'.block g HR.out.lt]; exact HR.out
    exact Rs3.cells (p := p) h9
  have HS0 : Hid (Below X1.heap.size X1 X1.drew) := (Below.refl _ _).drew
  replace HS : Hid (Stt D g s p es out w X1.drew) := HS.out.drew HR.out.lt
  replace HR : Hid (Rs3 X1.drew g s p (.slice ao es.length c) dv) := HR.out
  refine wp_region_noPanic ?_
  refine wp_region_held_drew (S := Below X1.heap.size X1) (by kernel_rfl) HS0.out (fun hHeld => ?_)
  generalize X1.drew = X2 at HS0 HS HR hHeld ⊢
  refine qtk (i := 0) (v := ?v443) rfl rfl (fun w' hw' => ?h443) hHeld ?r443
  case h443 => go_simp; try with_reducible rfl
  simp only [zt,zs,zz,Act.put,zi,zy,zx]
  refine qtk (i := 1) (v := ?v444) rfl rfl (fun w' hw' => ?h444) hHeld ?r444
  case h444 => go_simp; try with_reducible rfl
  simp only [zt,zs,zz,Act.put,zi,zy,zx]
  refine qtk (i := 2) (v := ?v445) rfl rfl (fun w' hw' => ?h445) hHeld ?r445
  case h445 => go_simp; try with_reducible rfl
  simp only [zt,zs,zz,Act.put,zi,zy,zx]
  refine qtk (i := 3) (v := ?v446) rfl rfl (fun w' hw' => ?h446) hHeld ?r446
  case h446 => (obtain ⟨d0, d1, d2, d3⟩ := HC.out w' hw'; go_simp); try with_reducible rfl
  simp only [zt,zs,zz,Act.put,zi,zy,zx]
  refine qtk (i := 4) (v := Value.int .i64 ((p : Int) + 1)) rfl rfl (fun w' hw' => ?_) hHeld ?_
  · go_simp; try omega
  simp only [zt,zs,zz,Act.put,zi,zy,zx]
  refine qtk (i := 5) (v := ?v448) rfl rfl (fun w' hw' => ?h448) hHeld ?r448
  case h448 => go_simp; try with_reducible rfl
  simp only [zt,zs,zz,Act.put,zi,zy,zx]
  refine qtk (i := 6) (v := ?v449) rfl rfl (fun w' hw' => ?h449) hHeld ?r449
  case h449 => go_simp; try with_reducible rfl
  simp only [zt,zs,zz,Act.put,zi,zy,zx]
  refine qtk (i := 7) (v := ?v450) rfl rfl (fun w' hw' => ?h450) hHeld ?r450
  case h450 => go_simp; try with_reducible rfl
  simp only [zt,zs,zz,Act.put,zi,zy,zx]
  refine qtk (i := 8) (v := ?v451) rfl rfl (fun w' hw' => ?h451) hHeld ?r451
  case h451 => (obtain ⟨d0, d1, d2, d3⟩ := HC.out w' hw'; go_simp); try with_reducible rfl
  simp only [zt,zs,zz,Act.put,zi,zy,zx]
  refine qtk (i := 9) (v := ?v452) rfl rfl (fun w' hw' => ?h452) hHeld ?r452
  case h452 => go_simp; try with_reducible rfl
  simp only [zt,zs,zz,Act.put,zi,zy,zx]
  refine qtk (i := 10) (v := Value.bool false) rfl rfl (fun w' hw' => ?_) hHeld ?_
  · go_simp; try omega
  simp only [zt,zs,zz,Act.put,zi,zy,zx]
  refine qtk (i := 11) (v := Value.bool false) rfl rfl (fun w' hw' => ?_) hHeld ?_
  · go_simp; try omega
  simp only [zt,zs,zz,Act.put,zi,zy,zx]
  refine qtk (i := 12) (v := ?v455) rfl rfl (fun w' hw' => ?h455) hHeld ?r455
  case h455 => go_simp; try with_reducible rfl
  simp only [zt,zs,zz,Act.put,zi,zy,zx]
  refine qtk (i := 13) (v := ?v456) rfl rfl (fun w' hw' => ?h456) hHeld ?r456
  case h456 => go_simp; try with_reducible rfl
  simp only [zt,zs,zz,Act.put,zi,zy,zx]
  refine qtk (i := 14) (v := ?v457) rfl rfl (fun w' hw' => ?h457) hHeld ?r457
  case h457 => go_simp; try with_reducible rfl
  simp only [zt,zs,zz,Act.put,zi,zy,zx]
  refine qtk (i := 15) (v := ?v458) rfl rfl (fun w' hw' => ?h458) hHeld ?r458
  case h458 => (obtain ⟨d0, d1, d2, d3⟩ := HC.out w' hw'; go_simp); try with_reducible rfl
  simp only [zt,zs,zz,Act.put,zi,zy,zx]
  refine qtk (i := 16) (v := ?v459) rfl rfl (fun w' hw' => ?h459) hHeld ?r459
  case h459 => go_simp; try with_reducible rfl
  simp only [zt,zs,zz,Act.put,zi,zy,zx]
  refine qtk (i := 17) (v := ?v460) rfl rfl (fun w' hw' => ?h460) hHeld ?r460
  case h460 => go_simp; try with_reducible rfl
  simp only [zt,zs,zz,Act.put,zi,zy,zx]
  refine qtk (i := 18) (v := ?v461) rfl rfl (fun w' hw' => ?h461) hHeld ?r461
  case h461 => go_simp; try with_reducible rfl
  simp only [zt,zs,zz,Act.put,zi,zy,zx]
  refine qtk (i := 19) (v := ?v462) rfl rfl (fun w' hw' => ?h462) hHeld ?r462
  case h462 => (obtain ⟨d0, d1, d2, d3⟩ := HC.out w' hw'; go_simp); try with_reducible rfl
  simp only [zt,zs,zz,Act.put,zi,zy,zx]
  refine qtk (i := 20) (v := Value.int .i64 ((p : Int) + 1)) rfl rfl (fun w' hw' => ?_) hHeld ?_
  · go_simp; try omega
  simp only [zt,zs,zz,Act.put,zi,zy,zx]
  refine qtk (i := 21) (v := Value.int .u8 ((s[p + 1]'hp1).toNat : Int)) rfl rfl (fun w' hw' => ?_) hHeld ?_
  · go_simp; rw [dif_pos (by omega)]; rfl
  simp only [zt,zs,zz,Act.put,zi,zy,zx]
  refine qtk (i := 22) (v := Value.bool true) rfl rfl (fun w' hw' => ?_) hHeld ?_
  · go_simp; try omega
  simp only [zt,zs,zz,Act.put,zi,zy,zx]
  refine qtk (i := 23) (v := Value.bool true) rfl rfl (fun w' hw' => ?_) hHeld ?_
  · go_simp; try omega
  simp only [zt,zs,zz,Act.put,zi,zy,zx]
  refine qtk (i := 24) (v := ?v467) rfl rfl (fun w' hw' => ?h467) hHeld ?r467
  case h467 => go_simp; try with_reducible rfl
  simp only [zt,zs,zz,Act.put,zi,zy,zx]
  refine qtk (i := 25) (v := ?v468) rfl rfl (fun w' hw' => ?h468) hHeld ?r468
  case h468 => go_simp; try with_reducible rfl
  simp only [zt,zs,zz,Act.put,zi,zy,zx]
  refine qtk (i := 26) (v := ?v469) rfl rfl (fun w' hw' => ?h469) hHeld ?r469
  case h469 => go_simp; try with_reducible rfl
  simp only [zt,zs,zz,Act.put,zi,zy,zx]
  refine qtk (i := 27) (v := ?v470) rfl rfl (fun w' hw' => ?h470) hHeld ?r470
  case h470 => (obtain ⟨d0, d1, d2, d3⟩ := HC.out w' hw'; go_simp); try with_reducible rfl
  simp only [zt,zs,zz,Act.put,zi,zy,zx]
  refine qtk (i := 28) (v := ?v471) rfl rfl (fun w' hw' => ?h471) hHeld ?r471
  case h471 => go_simp; try with_reducible rfl
  simp only [zt,zs,zz,Act.put,zi,zy,zx]
  refine qtk (i := 29) (v := ?v472) rfl rfl (fun w' hw' => ?h472) hHeld ?r472
  case h472 => go_simp; try with_reducible rfl
  simp only [zt,zs,zz,Act.put,zi,zy,zx]
  refine qtk (i := 30) (v := ?v473) rfl rfl (fun w' hw' => ?h473) hHeld ?r473
  case h473 => go_simp; try with_reducible rfl
  simp only [zt,zs,zz,Act.put,zi,zy,zx]
  refine qtk (i := 31) (v := ?v474) rfl rfl (fun w' hw' => ?h474) hHeld ?r474
  case h474 => (obtain ⟨d0, d1, d2, d3⟩ := HC.out w' hw'; go_simp); try with_reducible rfl
  simp only [zt,zs,zz,Act.put,zi,zy,zx]
  refine qtk (i := 32) (v := Value.int .i64 ((p : Int) + 1)) rfl rfl (fun w' hw' => ?_) hHeld ?_
  · go_simp; try omega
  simp only [zt,zs,zz,Act.put,zi,zy,zx]
  refine qtk (i := 33) (v := Value.int .u8 ((s[p + 1]'hp1).toNat : Int)) rfl rfl (fun w' hw' => ?_) hHeld ?_
  · go_simp; rw [dif_pos (by omega)]; rfl
  simp only [zt,zs,zz,Act.put,zi,zy,zx]
  refine qtk (i := 34) (v := Value.bool false) rfl rfl (fun w' hw' => ?_) hHeld ?_
  · go_simp; try omega
  simp only [zt,zs,zz,Act.put,zi,zy,zx]
  refine qtk (i := 35) (v := Value.bool false) rfl rfl (fun w' hw' => ?_) hHeld ?_
  · go_simp; try omega
  simp only [zt,zs,zz,Act.put,zi,zy,zx]
  refine qtk (i := 36) (v := Value.bool false) rfl rfl (fun w' hw' => ?_) hHeld ?_
  · go_simp; try omega
  simp only [zt,zs,zz,Act.put,zi,zy,zx]
  refine qtk (i := 37) (v := Value.bool false) rfl rfl (fun w' hw' => ?_) hHeld ?_
  · go_simp; try omega
  simp only [zt,zs,zz,Act.put,zi,zy,zx]
  refine qtk (i := 38) (v := ?v481) rfl rfl (fun w' hw' => ?h481) hHeld ?r481
  case h481 => go_simp; try with_reducible rfl
  simp only [zt,zs,zz,Act.put,zi,zy,zx]
  refine qtk (i := 39) (v := ?v482) rfl rfl (fun w' hw' => ?h482) hHeld ?r482
  case h482 => go_simp; try with_reducible rfl
  simp only [zt,zs,zz,Act.put,zi,zy,zx]
  refine qtk (i := 40) (v := ?v483) rfl rfl (fun w' hw' => ?h483) hHeld ?r483
  case h483 => go_simp; try with_reducible rfl
  simp only [zt,zs,zz,Act.put,zi,zy,zx]
  refine qtk (i := 41) (v := ?v484) rfl rfl (fun w' hw' => ?h484) hHeld ?r484
  case h484 => (obtain ⟨d0, d1, d2, d3⟩ := HC.out w' hw'; go_simp); try with_reducible rfl
  simp only [zt,zs,zz,Act.put,zi,zy,zx]
  refine qtk (i := 42) (v := Value.int .i64 ((p : Int) + 2)) rfl rfl (fun w' hw' => ?_) hHeld ?_
  · go_simp; try omega
  simp only [zt,zs,zz,Act.put,zi,zy,zx]
  refine qtk (i := 43) (v := ?v486) rfl rfl (fun w' hw' => ?h486) hHeld ?r486
  case h486 => go_simp; try with_reducible rfl
  simp only [zt,zs,zz,Act.put,zi,zy,zx]
  refine qtk (i := 44) (v := ?v487) rfl rfl (fun w' hw' => ?h487) hHeld ?r487
  case h487 => go_simp; try with_reducible rfl
  simp only [zt,zs,zz,Act.put,zi,zy,zx]
  refine qtk (i := 45) (v := ?v488) rfl rfl (fun w' hw' => ?h488) hHeld ?r488
  case h488 => go_simp; try with_reducible rfl
  simp only [zt,zs,zz,Act.put,zi,zy,zx]
  refine qtk (i := 46) (v := ?v489) rfl rfl (fun w' hw' => ?h489) hHeld ?r489
  case h489 => (obtain ⟨d0, d1, d2, d3⟩ := HC.out w' hw'; go_simp); try with_reducible rfl
  simp only [zt,zs,zz,Act.put,zi,zy,zx]
  refine qtk (i := 47) (v := ?v490) rfl rfl (fun w' hw' => ?h490) hHeld ?r490
  case h490 => go_simp; try with_reducible rfl
  simp only [zt,zs,zz,Act.put,zi,zy,zx]
  refine qtk (i := 48) (v := Value.bool true) rfl rfl (fun w' hw' => ?_) hHeld ?_
  · go_simp; try omega
  simp only [zt,zs,zz,Act.put,zi,zy,zx]
  refine qtk (i := 49) (v := Value.bool true) rfl rfl (fun w' hw' => ?_) hHeld ?_
  · go_simp; try omega
  simp only [zt,zs,zz,Act.put,zi,zy,zx]
  refine qtk (i := 50) (v := ?v493) rfl rfl (fun w' hw' => ?h493) hHeld ?r493
  case h493 => go_simp; try with_reducible rfl
  simp only [zt,zs,zz,Act.put,zi,zy,zx]
  refine qtk (i := 51) (v := ?v494) rfl rfl (fun w' hw' => ?h494) hHeld ?r494
  case h494 => go_simp; try with_reducible rfl
  simp only [zt,zs,zz,Act.put,zi,zy,zx]
  refine qtk (i := 52) (v := ?v495) rfl rfl (fun w' hw' => ?h495) hHeld ?r495
  case h495 => go_simp; try with_reducible rfl
  simp only [zt,zs,zz,Act.put,zi,zy,zx]
  refine qtk (i := 53) (v := ?v496) rfl rfl (fun w' hw' => ?h496) hHeld ?r496
  case h496 => (obtain ⟨d0, d1, d2, d3⟩ := HC.out w' hw'; go_simp); try with_reducible rfl
  simp only [zt,zs,zz,Act.put,zi,zy,zx]
  refine qtk (i := 54) (v := ?v497) rfl rfl (fun w' hw' => ?h497) hHeld ?r497
  case h497 => go_simp; try with_reducible rfl
  simp only [zt,zs,zz,Act.put,zi,zy,zx]
  refine qtk (i := 55) (v := ?v498) rfl rfl (fun w' hw' => ?h498) hHeld ?r498
  case h498 => go_simp; try with_reducible rfl
  simp only [zt,zs,zz,Act.put,zi,zy,zx]
  refine qtk (i := 56) (v := ?v499) rfl rfl (fun w' hw' => ?h499) hHeld ?r499
  case h499 => go_simp; try with_reducible rfl
  simp only [zt,zs,zz,Act.put,zi,zy,zx]
  refine qtk (i := 57) (v := ?v500) rfl rfl (fun w' hw' => ?h500) hHeld ?r500
  case h500 => (obtain ⟨d0, d1, d2, d3⟩ := HC.out w' hw'; go_simp); try with_reducible rfl
  simp only [zt,zs,zz,Act.put,zi,zy,zx]
  refine qtk (i := 58) (v := Value.int .i64 ((p : Int) + 2)) rfl rfl (fun w' hw' => ?_) hHeld ?_
  · go_simp; try omega
  simp only [zt,zs,zz,Act.put,zi,zy,zx]
  refine qtk (i := 59) (v := Value.int .u8 ((s[p + 2]'hp2).toNat : Int)) rfl rfl (fun w' hw' => ?_) hHeld ?_
  · go_simp; rw [dif_pos (by omega)]; have e : ((p : Int) + 2).toNat = p + 2 := (by omega); simp only [e]; rfl
  simp only [zt,zs,zz,Act.put,zi,zy,zx]
  refine wpAnyH_ready (rs := [60]) (by kernel_rfl) (by simp) ?_
  refine (AllReadyH.cons rfl (fun K hK => ?_) AllReadyH.nil)
  go_simp
  refine (sign_any _ _).mono ?_
  rintro e w' ⟨rfl, rfl⟩
  simp only [hsg]
  refine hK.out _ _ hHeld (fun hHeld => ?_)
  clear hK K
  try simp only [zt,zs,zz,Act.put,zi,zy,zx]
  refine qtk (i := 61) (v := Value.bool true) rfl rfl (fun w' hw' => ?_) hHeld ?_
  · go_simp; try omega
  simp only [zt,zs,zz,Act.put,zi,zy,zx]
  refine qtk (i := 62) (v := Value.bool true) rfl rfl (fun w' hw' => ?_) hHeld ?_
  · go_simp; try omega
  simp only [zt,zs,zz,Act.put,zi,zy,zx]
  refine wpAnyH_done (by kernel_rfl) ?_ _
  refine NoPanic.normal ?_
  clear hHeld
  clear HC HS0
  go_wp2_with fail
  go_ret
  have hn := HN.out
  unfold RetNx
  rw [hn]
  exact ⟨rfl, HS.out.low, HS.out.size, fun h => absurd h (by simp), fun _ => ⟨_, _, HR.out⟩⟩
end Go.Proofs.Ythhaegncnoekbaa
namespace Go.Proofs.Ythhaegncnoekbaa
open Go.RowKit Go.BigM
set_option maxHeartbeats 16000000 in
set_option maxRecDepth 100000 in
theorem next_hash_D2 {D : Nat → Prop} (g : Nat) (s : ByteArray) (p : Nat) (es : List En) (out : List Dt) (b : UInt8) (w : World) (h : RdAt D w.heap.size w g s p es out) (hgN : g < w.heap.size) (hp : p < s.size) (hb : s[p] = b) (hs : s.size ≤ 8000) (hB : Bnd es out p) (hbv : b = 35) (hp1 : p + 1 < s.size) (h116 : ¬ (s[p + 1]'hp1).toNat = 116) (h102 : (s[p + 1]'hp1).toNat = 102) (hp2 : p + 2 < s.size) (hsg : sset.contains (s[p + 2]'hp2) = false) :
    Calls Try.prog 64 #[.pointer (some ⟨g, 0, none⟩)] w (RetNx g s p b es out w) := by
  obtain ⟨ao, c, bo, dd, hf⟩ := h.form
  obtain ⟨dv, hdv⟩ : ∃ v, v = Value.slice bo out.length dd := ⟨_, rfl⟩
  rw [← hdv] at hf
  have HS := Lib.hid (Stt.start h)
  have HR := Lib.hid hf
  have HB := Lib.hid hB
  have HBB := Lib.hid hb
  have hel : es.length ≤ 60 := hB.2.2
  clear h hB hdv hf hb
  have HBV := Lib.hid hbv
  have hbn : b.toNat = 35 := by rw [hbv]; rfl
  have HNE : Hid (b ≠ 40 ∧ b ≠ 39 ∧ b ≠ 41) := by show _ ∧ _; rw [hbv]; decide
  have E40 : ((b.toNat : Int) == 40) = false := by simpa using (show ¬ (b.toNat : Int) = 40 by omega)
  have E39 : ((b.toNat : Int) == 39) = false := by simpa using (show ¬ (b.toNat : Int) = 39 by omega)
  have E41 : ((b.toNat : Int) == 41) = false := by simpa using (show ¬ (b.toNat : Int) = 41 by omega)
  have E35 : ((b.toNat : Int) == 35) = true := by simpa using (show (b.toNat : Int) = 35 by omega)
  have e9 : IntKind.i64.wrap ((p : Int) + 1) = (p : Int) + 1 := by rw [IntKind.wrap_i64]; omega
  have e10 : IntKind.i64.wrap ((p : Int) + 2) = (p : Int) + 2 := by rw [IntKind.wrap_i64]; omega
  clear hbv hbn
  have q1 : decide ((s.size : Int) ≤ (p : Int) + 1) = false := decide_eq_false (by omega)
  have HCC : Hid (s[p + 1]'hp1 = 116 ∨ s[p + 1]'hp1 = 102) := .inr (u8_is _ 102 h102)
  have F116 : (((s[p + 1]'hp1).toNat : Int) == 116) = false := by rw [beq_eq_false_iff_ne]; omega
  have G116 : (((s[p + 1]'hp1).toNat : Int) != 116) = true := by simp [bne, F116]
  have F102 : (((s[p + 1]'hp1).toNat : Int) == 102) = true := by rw [beq_iff_eq]; omega
  have G102 : (((s[p + 1]'hp1).toNat : Int) != 102) = false := by simp [bne, F102]
  clear h116 h102
  have q2 : decide ((p : Int) + 2 < (s.size : Int)) = true := decide_eq_true (by omega)
  have HSG := Lib.hid hsg
  go_enter Try.func64, Try.ntmps64
  go_upto_region 1 with fail
  have HC : Hid (∀ w', Below w.heap.size w w' → w'.cell? ⟨g, 0, none⟩ = some (.string s) ∧ w'.cell? ⟨g, 1, none⟩ = some (.int .i64 (p : Int)) ∧ w'.cell? ⟨g, 2, none⟩ = some (.slice ao es.length c) ∧ w'.cell? ⟨g, 3, none⟩ = some dv) := fun w' hw' => by
    have h9 : w'.heap[g]? = some (.cells #[.string s, .int .i64 (p : Int), .slice ao es.length c, dv] 114 (0, 0)) := by rw [hw'.block g HR.out.lt]; exact HR.out
    exact Rs3.cells (p := p) h9
  have HS0 : Hid (Below w.heap.size w w.drew) := (Below.refl _ _).drew
  replace HS : Hid (Stt D g s p es out w w.drew) := HS.out.drew HR.out.lt
  replace HR : Hid (Rs3 w.drew g s p (.slice ao es.length c) dv) := HR.out
  refine wp_region_noPanic ?_
  refine wp_region_held_drew (S := Below w.heap.size w) (by kernel_rfl) HS0.out (fun hHeld => ?_)
  generalize w.drew = X1 at HS0 HS HR hHeld ⊢
  refine qtk (i := 0) (v := ?v617) rfl rfl (fun w' hw' => ?h617) hHeld ?r617
  case h617 => go_simp; try with_reducible rfl
  simp only [zt,zs,zz,Act.put,zi,zy,zx]
  refine qtk (i := 1) (v := ?v618) rfl rfl (fun w' hw' => ?h618) hHeld ?r618
  case h618 => go_simp; try with_reducible rfl
  simp only [zt,zs,zz,Act.put,zi,zy,zx]
  refine qtk (i := 2) (v := ?v619) rfl rfl (fun w' hw' => ?h619) hHeld ?r619
  case h619 => go_simp; try with_reducible rfl
  simp only [zt,zs,zz,Act.put,zi,zy,zx]
  refine qtk (i := 3) (v := ?v620) rfl rfl (fun w' hw' => ?h620) hHeld ?r620
  case h620 => (obtain ⟨d0, d1, d2, d3⟩ := HC.out w' hw'; go_simp); try with_reducible rfl
  simp only [zt,zs,zz,Act.put,zi,zy,zx]
  refine qtk (i := 4) (v := ?v621) rfl rfl (fun w' hw' => ?h621) hHeld ?r621
  case h621 => go_simp; try with_reducible rfl
  simp only [zt,zs,zz,Act.put,zi,zy,zx]
  refine qtk (i := 5) (v := ?v622) rfl rfl (fun w' hw' => ?h622) hHeld ?r622
  case h622 => go_simp; try with_reducible rfl
  simp only [zt,zs,zz,Act.put,zi,zy,zx]
  refine qtk (i := 6) (v := ?v623) rfl rfl (fun w' hw' => ?h623) hHeld ?r623
  case h623 => go_simp; try with_reducible rfl
  simp only [zt,zs,zz,Act.put,zi,zy,zx]
  refine qtk (i := 7) (v := ?v624) rfl rfl (fun w' hw' => ?h624) hHeld ?r624
  case h624 => (obtain ⟨d0, d1, d2, d3⟩ := HC.out w' hw'; go_simp); try with_reducible rfl
  simp only [zt,zs,zz,Act.put,zi,zy,zx]
  refine qtk (i := 8) (v := Value.int .u8 ((s[p]'hp).toNat : Int)) rfl rfl (fun w' hw' => ?_) hHeld ?_
  · go_simp
  simp only [zt,zs,zz,Act.put,zi,zy,zx]
  refine qtk (i := 9) (v := ?v626) rfl rfl (fun w' hw' => ?h626) hHeld ?r626
  case h626 => go_simp; try with_reducible rfl
  simp only [zt,zs,zz,Act.put,zi,zy,zx]
  refine wpAnyH_done (by kernel_rfl) ?_ _
  refine NoPanic.normal ?_
  clear hHeld
  clear HC HS0
  rw [HBB.out]
  have HN : Hid (nxt s p b es out = (0, p + 2, (putS (.mk 2 ⟨#[35, s[p + 1]'hp1]⟩ [] [] p) es out).1, (putS (.mk 2 ⟨#[35, s[p + 1]'hp1]⟩ [] [] p) es out).2)) := by
    show _ = _
    rw [nxt_tok HNE.out.1 HNE.out.2.1 HNE.out.2.2 (by rw [hash_b hp (by rw [HBB.out]; exact HBV.out) hp1, if_pos ⟨HCC.out, row0_no hp2 HSG.out⟩])]
  go_upto_region 16 with fail
  have HC : Hid (∀ w', Below X1.heap.size X1 w' → w'.cell? ⟨g, 0, none⟩ = some (.string s) ∧ w'.cell? ⟨g, 1, none⟩ = some (.int .i64 (p : Int)) ∧ w'.cell? ⟨g, 2, none⟩ = some (.slice ao es.length c) ∧ w'.cell? ⟨g, 3, none⟩ = some dv) := fun w' hw' => by
    have h9 : w'.heap[g]? = some (.cells #[.string s, .int .i64 (p : Int), .slice ao es.length c, dv] 114 (0, 0)) := by rw [hw'.block g HR.out.lt]; exact HR.out
    exact Rs3.cells (p := p) h9
  have HS0 : Hid (Below X1.heap.size X1 X1.drew) := (Below.refl _ _).drew
  replace HS : Hid (Stt D g s p es out w X1.drew) := HS.out.drew HR.out.lt
  replace HR : Hid (Rs3 X1.drew g s p (.slice ao es.length c) dv) := HR.out
  refine wp_region_noPanic ?_
  refine wp_region_held_drew (S := Below X1.heap.size X1) (by kernel_rfl) HS0.out (fun hHeld => ?_)
  generalize X1.drew = X2 at HS0 HS HR hHeld ⊢
  refine qtk (i := 0) (v := ?v515) rfl rfl (fun w' hw' => ?h515) hHeld ?r515
  case h515 => go_simp; try with_reducible rfl
  simp only [zt,zs,zz,Act.put,zi,zy,zx]
  refine qtk (i := 1) (v := ?v516) rfl rfl (fun w' hw' => ?h516) hHeld ?r516
  case h516 => go_simp; try with_reducible rfl
  simp only [zt,zs,zz,Act.put,zi,zy,zx]
  refine qtk (i := 2) (v := ?v517) rfl rfl (fun w' hw' => ?h517) hHeld ?r517
  case h517 => go_simp; try with_reducible rfl
  simp only [zt,zs,zz,Act.put,zi,zy,zx]
  refine qtk (i := 3) (v := ?v518) rfl rfl (fun w' hw' => ?h518) hHeld ?r518
  case h518 => (obtain ⟨d0, d1, d2, d3⟩ := HC.out w' hw'; go_simp); try with_reducible rfl
  simp only [zt,zs,zz,Act.put,zi,zy,zx]
  refine qtk (i := 4) (v := Value.int .i64 ((p : Int) + 1)) rfl rfl (fun w' hw' => ?_) hHeld ?_
  · go_simp; try omega
  simp only [zt,zs,zz,Act.put,zi,zy,zx]
  refine qtk (i := 5) (v := ?v520) rfl rfl (fun w' hw' => ?h520) hHeld ?r520
  case h520 => go_simp; try with_reducible rfl
  simp only [zt,zs,zz,Act.put,zi,zy,zx]
  refine qtk (i := 6) (v := ?v521) rfl rfl (fun w' hw' => ?h521) hHeld ?r521
  case h521 => go_simp; try with_reducible rfl
  simp only [zt,zs,zz,Act.put,zi,zy,zx]
  refine qtk (i := 7) (v := ?v522) rfl rfl (fun w' hw' => ?h522) hHeld ?r522
  case h522 => go_simp; try with_reducible rfl
  simp only [zt,zs,zz,Act.put,zi,zy,zx]
  refine qtk (i := 8) (v := ?v523) rfl rfl (fun w' hw' => ?h523) hHeld ?r523
  case h523 => (obtain ⟨d0, d1, d2, d3⟩ := HC.out w' hw'; go_simp); try with_reducible rfl
  simp only [zt,zs,zz,Act.put,zi,zy,zx]
  refine qtk (i := 9) (v := ?v524) rfl rfl (fun w' hw' => ?h524) hHeld ?r524
  case h524 => go_simp; try with_reducible rfl
  simp only [zt,zs,zz,Act.put,zi,zy,zx]
  refine qtk (i := 10) (v := Value.bool false) rfl rfl (fun w' hw' => ?_) hHeld ?_
  · go_simp; try omega
  simp only [zt,zs,zz,Act.put,zi,zy,zx]
  refine qtk (i := 11) (v := Value.bool false) rfl rfl (fun w' hw' => ?_) hHeld ?_
  · go_simp; try omega
  simp only [zt,zs,zz,Act.put,zi,zy,zx]
  refine qtk (i := 12) (v := ?v527) rfl rfl (fun w' hw' => ?h527) hHeld ?r527
  case h527 => go_simp; try with_reducible rfl
  simp only [zt,zs,zz,Act.put,zi,zy,zx]
  refine qtk (i := 13) (v := ?v528) rfl rfl (fun w' hw' => ?h528) hHeld ?r528
  case h528 => go_simp; try with_reducible rfl
  simp only [zt,zs,zz,Act.put,zi,zy,zx]
  refine qtk (i := 14) (v := ?v529) rfl rfl (fun w' hw' => ?h529) hHeld ?r529
  case h529 => go_simp; try with_reducible rfl
  simp only [zt,zs,zz,Act.put,zi,zy,zx]
  refine qtk (i := 15) (v := ?v530) rfl rfl (fun w' hw' => ?h530) hHeld ?r530
  case h530 => (obtain ⟨d0, d1, d2, d3⟩ := HC.out w' hw'; go_simp); try with_reducible rfl
  simp only [zt,zs,zz,Act.put,zi,zy,zx]
  refine qtk (i := 16) (v := ?v531) rfl rfl (fun w' hw' => ?h531) hHeld ?r531
  case h531 => go_simp; try with_reducible rfl
  simp only [zt,zs,zz,Act.put,zi,zy,zx]
  refine qtk (i := 17) (v := ?v532) rfl rfl (fun w' hw' => ?h532) hHeld ?r532
  case h532 => go_simp; try with_reducible rfl
  simp only [zt,zs,zz,Act.put,zi,zy,zx]
  refine qtk (i := 18) (v := ?v533) rfl rfl (fun w' hw' => ?h533) hHeld ?r533
  case h533 => go_simp; try with_reducible rfl
  simp only [zt,zs,zz,Act.put,zi,zy,zx]
  refine qtk (i := 19) (v := ?v534) rfl rfl (fun w' hw' => ?h534) hHeld ?r534
  case h534 => (obtain ⟨d0, d1, d2, d3⟩ := HC.out w' hw'; go_simp); try with_reducible rfl
  simp only [zt,zs,zz,Act.put,zi,zy,zx]
  refine qtk (i := 20) (v := Value.int .i64 ((p : Int) + 1)) rfl rfl (fun w' hw' => ?_) hHeld ?_
  · go_simp; try omega
  simp only [zt,zs,zz,Act.put,zi,zy,zx]
  refine qtk (i := 21) (v := Value.int .u8 ((s[p + 1]'hp1).toNat : Int)) rfl rfl (fun w' hw' => ?_) hHeld ?_
  · go_simp; rw [dif_pos (by omega)]; rfl
  simp only [zt,zs,zz,Act.put,zi,zy,zx]
  refine qtk (i := 22) (v := Value.bool true) rfl rfl (fun w' hw' => ?_) hHeld ?_
  · go_simp; try omega
  simp only [zt,zs,zz,Act.put,zi,zy,zx]
  refine qtk (i := 23) (v := Value.bool true) rfl rfl (fun w' hw' => ?_) hHeld ?_
  · go_simp; try omega
  simp only [zt,zs,zz,Act.put,zi,zy,zx]
  refine qtk (i := 24) (v := ?v539) rfl rfl (fun w' hw' => ?h539) hHeld ?r539
  case h539 => go_simp; try with_reducible rfl
  simp only [zt,zs,zz,Act.put,zi,zy,zx]
  refine qtk (i := 25) (v := ?v540) rfl rfl (fun w' hw' => ?h540) hHeld ?r540
  case h540 => go_simp; try with_reducible rfl
  simp only [zt,zs,zz,Act.put,zi,zy,zx]
  refine qtk (i := 26) (v := ?v541) rfl rfl (fun w' hw' => ?h541) hHeld ?r541
  case h541 => go_simp; try with_reducible rfl
  simp only [zt,zs,zz,Act.put,zi,zy,zx]
  refine qtk (i := 27) (v := ?v542) rfl rfl (fun w' hw' => ?h542) hHeld ?r542
  case h542 => (obtain ⟨d0, d1, d2, d3⟩ := HC.out w' hw'; go_simp); try with_reducible rfl
  simp only [zt,zs,zz,Act.put,zi,zy,zx]
  refine qtk (i := 28) (v := ?v543) rfl rfl (fun w' hw' => ?h543) hHeld ?r543
  case h543 => go_simp; try with_reducible rfl
  simp only [zt,zs,zz,Act.put,zi,zy,zx]
  refine qtk (i := 29) (v := ?v544) rfl rfl (fun w' hw' => ?h544) hHeld ?r544
  case h544 => go_simp; try with_reducible rfl
  simp only [zt,zs,zz,Act.put,zi,zy,zx]
  refine qtk (i := 30) (v := ?v545) rfl rfl (fun w' hw' => ?h545) hHeld ?r545
  case h545 => go_simp; try with_reducible rfl
  simp only [zt,zs,zz,Act.put,zi,zy,zx]
  refine qtk (i := 31) (v := ?v546) rfl rfl (fun w' hw' => ?h546) hHeld ?r546
  case h546 => (obtain ⟨d0, d1, d2, d3⟩ := HC.out w' hw'; go_simp); try with_reducible rfl
  simp only [zt,zs,zz,Act.put,zi,zy,zx]
  refine qtk (i := 32) (v := Value.int .i64 ((p : Int) + 1)) rfl rfl (fun w' hw' => ?_) hHeld ?_
  · go_simp; try omega
  simp only [zt,zs,zz,Act.put,zi,zy,zx]
  refine qtk (i := 33) (v := Value.int .u8 ((s[p + 1]'hp1).toNat : Int)) rfl rfl (fun w' hw' => ?_) hHeld ?_
  · go_simp; rw [dif_pos (by omega)]; rfl
  simp only [zt,zs,zz,Act.put,zi,zy,zx]
  refine qtk (i := 34) (v := Value.bool false) rfl rfl (fun w' hw' => ?_) hHeld ?_
  · go_simp; try omega
  simp only [zt,zs,zz,Act.put,zi,zy,zx]
  refine qtk (i := 35) (v := Value.bool false) rfl rfl (fun w' hw' => ?_) hHeld ?_
  · go_simp; try omega
  simp only [zt,zs,zz,Act.put,zi,zy,zx]
  refine qtk (i := 36) (v := Value.bool false) rfl rfl (fun w' hw' => ?_) hHeld ?_
  · go_simp; try omega
  simp only [zt,zs,zz,Act.put,zi,zy,zx]
  refine qtk (i := 37) (v := Value.bool false) rfl rfl (fun w' hw' => ?_) hHeld ?_
  · go_simp; try omega
  simp only [zt,zs,zz,Act.put,zi,zy,zx]
  refine qtk (i := 38) (v := ?v553) rfl rfl (fun w' hw' => ?h553) hHeld ?r553
  case h553 => go_simp; try with_reducible rfl
  simp only [zt,zs,zz,Act.put,zi,zy,zx]
  refine qtk (i := 39) (v := ?v554) rfl rfl (fun w' hw' => ?h554) hHeld ?r554
  case h554 => go_simp; try with_reducible rfl
  simp only [zt,zs,zz,Act.put,zi,zy,zx]
  refine qtk (i := 40) (v := ?v555) rfl rfl (fun w' hw' => ?h555) hHeld ?r555
  case h555 => go_simp; try with_reducible rfl
  simp only [zt,zs,zz,Act.put,zi,zy,zx]
  refine qtk (i := 41) (v := ?v556) rfl rfl (fun w' hw' => ?h556) hHeld ?r556
  case h556 => (obtain ⟨d0, d1, d2, d3⟩ := HC.out w' hw'; go_simp); try with_reducible rfl
  simp only [zt,zs,zz,Act.put,zi,zy,zx]
  refine qtk (i := 42) (v := Value.int .i64 ((p : Int) + 2)) rfl rfl (fun w' hw' => ?_) hHeld ?_
  · go_simp; try omega
  simp only [zt,zs,zz,Act.put,zi,zy,zx]
  refine qtk (i := 43) (v := ?v558) rfl rfl (fun w' hw' => ?h558) hHeld ?r558
  case h558 => go_simp; try with_reducible rfl
  simp only [zt,zs,zz,Act.put,zi,zy,zx]
  refine qtk (i := 44) (v := ?v559) rfl rfl (fun w' hw' => ?h559) hHeld ?r559
  case h559 => go_simp; try with_reducible rfl
  simp only [zt,zs,zz,Act.put,zi,zy,zx]
  refine qtk (i := 45) (v := ?v560) rfl rfl (fun w' hw' => ?h560) hHeld ?r560
  case h560 => go_simp; try with_reducible rfl
  simp only [zt,zs,zz,Act.put,zi,zy,zx]
  refine qtk (i := 46) (v := ?v561) rfl rfl (fun w' hw' => ?h561) hHeld ?r561
  case h561 => (obtain ⟨d0, d1, d2, d3⟩ := HC.out w' hw'; go_simp); try with_reducible rfl
  simp only [zt,zs,zz,Act.put,zi,zy,zx]
  refine qtk (i := 47) (v := ?v562) rfl rfl (fun w' hw' => ?h562) hHeld ?r562
  case h562 => go_simp; try with_reducible rfl
  simp only [zt,zs,zz,Act.put,zi,zy,zx]
  refine qtk (i := 48) (v := Value.bool true) rfl rfl (fun w' hw' => ?_) hHeld ?_
  · go_simp; try omega
  simp only [zt,zs,zz,Act.put,zi,zy,zx]
  refine qtk (i := 49) (v := Value.bool true) rfl rfl (fun w' hw' => ?_) hHeld ?_
  · go_simp; try omega
  simp only [zt,zs,zz,Act.put,zi,zy,zx]
  refine qtk (i := 50) (v := ?v565) rfl rfl (fun w' hw' => ?h565) hHeld ?r565
  case h565 => go_simp; try with_reducible rfl
  simp only [zt,zs,zz,Act.put,zi,zy,zx]
  refine qtk (i := 51) (v := ?v566) rfl rfl (fun w' hw' => ?h566) hHeld ?r566
  case h566 => go_simp; try with_reducible rfl
  simp only [zt,zs,zz,Act.put,zi,zy,zx]
  refine qtk (i := 52) (v := ?v567) rfl rfl (fun w' hw' => ?h567) hHeld ?r567
  case h567 => go_simp; try with_reducible rfl
  simp only [zt,zs,zz,Act.put,zi,zy,zx]
  refine qtk (i := 53) (v := ?v568) rfl rfl (fun w' hw' => ?h568) hHeld ?r568
  case h568 => (obtain ⟨d0, d1, d2, d3⟩ := HC.out w' hw'; go_simp); try with_reducible rfl
  simp only [zt,zs,zz,Act.put,zi,zy,zx]
  refine qtk (i := 54) (v := ?v569) rfl rfl (fun w' hw' => ?h569) hHeld ?r569
  case h569 => go_simp; try with_reducible rfl
  simp only [zt,zs,zz,Act.put,zi,zy,zx]
  refine qtk (i := 55) (v := ?v570) rfl rfl (fun w' hw' => ?h570) hHeld ?r570
  case h570 => go_simp; try with_reducible rfl
  simp only [zt,zs,zz,Act.put,zi,zy,zx]
  refine qtk (i := 56) (v := ?v571) rfl rfl (fun w' hw' => ?h571) hHeld ?r571
  case h571 => go_simp; try with_reducible rfl
  simp only [zt,zs,zz,Act.put,zi,zy,zx]
  refine qtk (i := 57) (v := ?v572) rfl rfl (fun w' hw' => ?h572) hHeld ?r572
  case h572 => (obtain ⟨d0, d1, d2, d3⟩ := HC.out w' hw'; go_simp); try with_reducible rfl
  simp only [zt,zs,zz,Act.put,zi,zy,zx]
  refine qtk (i := 58) (v := Value.int .i64 ((p : Int) + 2)) rfl rfl (fun w' hw' => ?_) hHeld ?_
  · go_simp; try omega
  simp only [zt,zs,zz,Act.put,zi,zy,zx]
  refine qtk (i := 59) (v := Value.int .u8 ((s[p + 2]'hp2).toNat : Int)) rfl rfl (fun w' hw' => ?_) hHeld ?_
  · go_simp; rw [dif_pos (by omega)]; have e : ((p : Int) + 2).toNat = p + 2 := (by omega); simp only [e]; rfl
  simp only [zt,zs,zz,Act.put,zi,zy,zx]
  refine wpAnyH_ready (rs := [60]) (by kernel_rfl) (by simp) ?_
  refine (AllReadyH.cons rfl (fun K hK => ?_) AllReadyH.nil)
  go_simp
  refine (sign_any _ _).mono ?_
  rintro e w' ⟨rfl, rfl⟩
  simp only [hsg]
  refine hK.out _ _ hHeld (fun hHeld => ?_)
  clear hK K
  try simp only [zt,zs,zz,Act.put,zi,zy,zx]
  refine qtk (i := 61) (v := Value.bool false) rfl rfl (fun w' hw' => ?_) hHeld ?_
  · go_simp; try omega
  simp only [zt,zs,zz,Act.put,zi,zy,zx]
  refine qtk (i := 62) (v := Value.bool false) rfl rfl (fun w' hw' => ?_) hHeld ?_
  · go_simp; try omega
  simp only [zt,zs,zz,Act.put,zi,zy,zx]
  refine wpAnyH_done (by kernel_rfl) ?_ _
  refine NoPanic.normal ?_
  clear hHeld
  clear HC HS0
  go_upto_region 18 with fail
  obtain ⟨pp, hpp⟩ : ∃ pp, pp = p + 2 := ⟨_, rfl⟩
  have e11 : IntKind.i64.wrap ((p : Int) + 2) = (pp : Int) := by rw [hpp, e10]; omega
  have hpps : pp ≤ s.size := by omega
  have hppp : p ≤ pp := by omega
  clear e10
  have hgx : g < X2.drew.heap.size := HR.out.lt
  have FP := Lib.hid (put3_any g s p es out (.mk 2 ⟨#[35, s[p + 1]'hp1]⟩ [] [] p) 2 ⟨#[35, s[p + 1]'hp1]⟩ none 0 0 none 0 0 p p X2.drew (HS.out.drew HR.out.lt).rd hgx (by rw [At_mk]; exact ⟨_, _, rfl, .inl ⟨rfl, rfl⟩, .inl ⟨rfl, rfl⟩⟩) HB.out (by omega))
  have HCT : Hid (s.extract p pp = ⟨#[35, s[p + 1]'hp1]⟩) := by rw [hpp]; exact cut_two hp (by rw [HBB.out]; exact HBV.out) hp1
  have HN : Hid (nxt s p b es out = (0, pp, (putS (.mk 2 ⟨#[35, s[p + 1]'hp1]⟩ [] [] p) es out).1, (putS (.mk 2 ⟨#[35, s[p + 1]'hp1]⟩ [] [] p) es out).2)) := by rw [hpp]; exact HN.out
  clear hgx hpp
  have HC : Hid (∀ w', Below X2.heap.size X2 w' → w'.cell? ⟨g, 0, none⟩ = some (.string s) ∧ w'.cell? ⟨g, 1, none⟩ = some (.int .i64 (p : Int)) ∧ w'.cell? ⟨g, 2, none⟩ = some (.slice ao es.length c) ∧ w'.cell? ⟨g, 3, none⟩ = some dv) := fun w' hw' => by
    have h9 : w'.heap[g]? = some (.cells #[.string s, .int .i64 (p : Int), .slice ao es.length c, dv] 114 (0, 0)) := by rw [hw'.block g HR.out.lt]; exact HR.out
    exact Rs3.cells (p := p) h9
  have HS0 : Hid (Below X2.heap.size X2 X2.drew) := (Below.refl _ _).drew
  replace HS : Hid (Stt D g s p es out w X2.drew) := HS.out.drew HR.out.lt
  replace HR : Hid (Rs3 X2.drew g s p (.slice ao es.length c) dv) := HR.out
  refine wp_region_noPanic ?_
  refine wp_region_late (S := Below X2.heap.size X2) (fun i => i == 20) (by kernel_rfl) HS0.out (fun hHeld => ?_)
  generalize X2.drew = X3 at HS0 HS HR FP hHeld ⊢
  refine wpAnyL_take (B := [20]) (i := 0) (v := ?v578) rfl (by kernel_rfl) (by kernel_rfl) (by kernel_rfl) (by kernel_rfl) (fun _ _ _ h => h) (Or.inl ⟨rfl, fun w' hw' => ?h578⟩) hHeld ?r578
  case h578 => go_simp; try with_reducible rfl
  simp only [zt,zs,zz,Act.put,zi,zy,zx]
  refine wpAnyL_take (B := [2, 3, 4, 14, 19, 20]) (i := 1) (v := ?v580) rfl (by kernel_rfl) (by kernel_rfl) (by kernel_rfl) (by kernel_rfl) (fun _ _ _ h => h) (Or.inl ⟨rfl, fun w' hw' => ?h580⟩) hHeld ?r580
  case h580 => go_simp; try with_reducible rfl
  simp only [zt,zs,zz,Act.put,zi,zy,zx]
  refine wpAnyL_take (B := [3, 4, 14, 19, 20]) (i := 2) (v := ?v582) rfl (by kernel_rfl) (by kernel_rfl) (by kernel_rfl) (by kernel_rfl) (fun _ _ _ h => h) (Or.inl ⟨rfl, fun w' hw' => ?h582⟩) hHeld ?r582
  case h582 => go_simp; try with_reducible rfl
  simp only [zt,zs,zz,Act.put,zi,zy,zx]
  refine wpAnyL_take (B := [4, 14, 19, 20]) (i := 3) (v := ?v584) rfl (by kernel_rfl) (by kernel_rfl) (by kernel_rfl) (by kernel_rfl) (fun _ _ _ h => h) (Or.inl ⟨rfl, fun w' hw' => ?h584⟩) hHeld ?r584
  case h584 => go_simp; try with_reducible rfl
  simp only [zt,zs,zz,Act.put,zi,zy,zx]
  refine wpAnyL_take (B := [14, 19, 20]) (i := 4) (v := ?v586) rfl (by kernel_rfl) (by kernel_rfl) (by kernel_rfl) (by kernel_rfl) (fun _ _ _ h => h) (Or.inl ⟨rfl, fun w' hw' => ?h586⟩) hHeld ?r586
  case h586 => (obtain ⟨d0, d1, d2, d3⟩ := HC.out w' hw'; go_simp); try with_reducible rfl
  simp only [zt,zs,zz,Act.put,zi,zy,zx]
  refine wpAnyL_take (B := [6, 7, 8, 14, 19, 20]) (i := 5) (v := ?v588) rfl (by kernel_rfl) (by kernel_rfl) (by kernel_rfl) (by kernel_rfl) (fun _ _ _ h => h) (Or.inl ⟨rfl, fun w' hw' => ?h588⟩) hHeld ?r588
  case h588 => go_simp; try with_reducible rfl
  simp only [zt,zs,zz,Act.put,zi,zy,zx]
  refine wpAnyL_take (B := [7, 8, 14, 19, 20]) (i := 6) (v := ?v590) rfl (by kernel_rfl) (by kernel_rfl) (by kernel_rfl) (by kernel_rfl) (fun _ _ _ h => h) (Or.inl ⟨rfl, fun w' hw' => ?h590⟩) hHeld ?r590
  case h590 => go_simp; try with_reducible rfl
  simp only [zt,zs,zz,Act.put,zi,zy,zx]
  refine wpAnyL_take (B := [8, 14, 19, 20]) (i := 7) (v := ?v592) rfl (by kernel_rfl) (by kernel_rfl) (by kernel_rfl) (by kernel_rfl) (fun _ _ _ h => h) (Or.inl ⟨rfl, fun w' hw' => ?h592⟩) hHeld ?r592
  case h592 => go_simp; try with_reducible rfl
  simp only [zt,zs,zz,Act.put,zi,zy,zx]
  refine wpAnyL_take (B := [14, 19, 20]) (i := 8) (v := ?v594) rfl (by kernel_rfl) (by kernel_rfl) (by kernel_rfl) (by kernel_rfl) (fun _ _ _ h => h) (Or.inl ⟨rfl, fun w' hw' => ?h594⟩) hHeld ?r594
  case h594 => (obtain ⟨d0, d1, d2, d3⟩ := HC.out w' hw'; go_simp); try with_reducible rfl
  simp only [zt,zs,zz,Act.put,zi,zy,zx]
  refine wpAnyL_take (B := [10, 11, 12, 13, 14, 19, 20]) (i := 9) (v := ?v596) rfl (by kernel_rfl) (by kernel_rfl) (by kernel_rfl) (by kernel_rfl) (fun _ _ _ h => h) (Or.inl ⟨rfl, fun w' hw' => ?h596⟩) hHeld ?r596
  case h596 => go_simp; try with_reducible rfl
  simp only [zt,zs,zz,Act.put,zi,zy,zx]
  refine wpAnyL_take (B := [11, 12, 13, 14, 19, 20]) (i := 10) (v := ?v598) rfl (by kernel_rfl) (by kernel_rfl) (by kernel_rfl) (by kernel_rfl) (fun _ _ _ h => h) (Or.inl ⟨rfl, fun w' hw' => ?h598⟩) hHeld ?r598
  case h598 => go_simp; try with_reducible rfl
  simp only [zt,zs,zz,Act.put,zi,zy,zx]
  refine wpAnyL_take (B := [12, 13, 14, 19, 20]) (i := 11) (v := ?v600) rfl (by kernel_rfl) (by kernel_rfl) (by kernel_rfl) (by kernel_rfl) (fun _ _ _ h => h) (Or.inl ⟨rfl, fun w' hw' => ?h600⟩) hHeld ?r600
  case h600 => go_simp; try with_reducible rfl
  simp only [zt,zs,zz,Act.put,zi,zy,zx]
  refine wpAnyL_take (B := [13, 14, 19, 20]) (i := 12) (v := ?v602) rfl (by kernel_rfl) (by kernel_rfl) (by kernel_rfl) (by kernel_rfl) (fun _ _ _ h => h) (Or.inl ⟨rfl, fun w' hw' => ?h602⟩) hHeld ?r602
  case h602 => (obtain ⟨d0, d1, d2, d3⟩ := HC.out w' hw'; go_simp); try with_reducible rfl
  simp only [zt,zs,zz,Act.put,zi,zy,zx]
  refine wpAnyL_take (B := [14, 19, 20]) (i := 13) (v := Value.int .i64 (pp : Int)) rfl (by kernel_rfl) (by kernel_rfl) (by kernel_rfl) (by kernel_rfl) (fun _ _ _ h => h) (Or.inl ⟨rfl, fun w' hw' => ?_⟩) hHeld ?_
  · go_simp
  simp only [zt,zs,zz,Act.put,zi,zy,zx]
  refine wpAnyL_take (B := [19, 20]) (i := 14) (v := Value.string (s.extract p pp)) rfl (by kernel_rfl) (by kernel_rfl) (by kernel_rfl) (by kernel_rfl) (fun _ _ _ h => h) (Or.inl ⟨rfl, fun w' hw' => ?_⟩) hHeld ?_
  · go_simp; try omega
  simp only [zt,zs,zz,Act.put,zi,zy,zx]
  rw [HCT.out]
  refine wpAnyL_take (B := [16, 17, 18, 19, 20]) (i := 15) (v := ?v608) rfl (by kernel_rfl) (by kernel_rfl) (by kernel_rfl) (by kernel_rfl) (fun _ _ _ h => h) (Or.inl ⟨rfl, fun w' hw' => ?h608⟩) hHeld ?r608
  case h608 => go_simp; try with_reducible rfl
  simp only [zt,zs,zz,Act.put,zi,zy,zx]
  refine wpAnyL_take (B := [17, 18, 19, 20]) (i := 16) (v := ?v610) rfl (by kernel_rfl) (by kernel_rfl) (by kernel_rfl) (by kernel_rfl) (fun _ _ _ h => h) (Or.inl ⟨rfl, fun w' hw' => ?h610⟩) hHeld ?r610
  case h610 => go_simp; try with_reducible rfl
  simp only [zt,zs,zz,Act.put,zi,zy,zx]
  refine wpAnyL_take (B := [18, 19, 20]) (i := 17) (v := ?v612) rfl (by kernel_rfl) (by kernel_rfl) (by kernel_rfl) (by kernel_rfl) (fun _ _ _ h => h) (Or.inl ⟨rfl, fun w' hw' => ?h612⟩) hHeld ?r612
  case h612 => go_simp; try with_reducible rfl
  simp only [zt,zs,zz,Act.put,zi,zy,zx]
  refine wpAnyL_take (B := [19, 20]) (i := 18) (v := ?v614) rfl (by kernel_rfl) (by kernel_rfl) (by kernel_rfl) (by kernel_rfl) (fun _ _ _ h => h) (Or.inl ⟨rfl, fun w' hw' => ?h614⟩) hHeld ?r614
  case h614 => (obtain ⟨d0, d1, d2, d3⟩ := HC.out w' hw'; go_simp); try with_reducible rfl
  simp only [zt,zs,zz,Act.put,zi,zy,zx]
  refine wpAnyL_take (B := [20]) (i := 19) (v := ?v616) rfl (by kernel_rfl) (by kernel_rfl) (by kernel_rfl) (by kernel_rfl) (fun _ _ _ h => h) (Or.inl ⟨rfl, fun w' hw' => ?h616⟩) hHeld ?r616
  case h616 => go_simp; try with_reducible rfl
  simp only [zt,zs,zz,Act.put,zi,zy,zx]
  refine wpAnyL_ready (rs := [20]) (by kernel_rfl) (by simp) ?_
  refine (AllL.last (S2 := fun _ => True) rfl rfl (fun K hK => ?_) AllL.nil)
  go_simp
  refine FP.out.mono ?_
  rintro e7 w7 ⟨rfl, hbl, hsz, D7, hD7⟩
  have HB7 := Lib.hid hbl
  have HZ7 := Lib.hid hsz
  have HD7 := Lib.hid hD7
  clear hbl hsz hD7
  refine hK.out _ _ trivial (fun hHeld => ?_)
  clear hK K
  try simp only [zt,zs,zz,Act.put,zi,zy,zx]
  refine wpAnyH_done (by kernel_rfl) ?_ _
  refine NoPanic.normal ?_
  clear hHeld
  clear HC HS0
  have HLO : Hid (Below g w w7) := HS.out.low.trans HB7.out
  have HSZ : Hid (w.heap.size ≤ w7.heap.size) := by have h1 := HS.out.size; have h2 := HZ7.out; show _ ≤ _; omega
  obtain ⟨ao3, c3, bo3, dd3, hf3⟩ := HD7.out.form
  have d1 := hf3.cells.2.1
  have fz := hf3.frozen 1
  have HRD := Lib.hid (HD7.out.setP pp)
  have HL1 : Hid (Below g w (w7.setCell ⟨g, 1, none⟩ (.int .i64 (pp : Int)))) := HLO.out.setCell (p := ⟨g, 1, none⟩) (Nat.le_refl _) _
  have hz : (w7.setCell ⟨g, 1, none⟩ (.int .i64 (pp : Int))).heap.size = w7.heap.size := by simp [World.setCell]
  have HZ1 := Lib.hid hz
  clear hf3 hz HD7 FP HS HR
  go_wp2_with fail
  go_ret
  have hn := HN.out
  unfold RetNx
  rw [hn]
  exact ⟨rfl, HL1.out, by rw [HZ1.out]; exact HSZ.out, fun _ => ⟨D7, by rw [HZ1.out]; exact HRD.out⟩, fun h => absurd rfl h⟩
end Go.Proofs.Ythhaegncnoekbaa
