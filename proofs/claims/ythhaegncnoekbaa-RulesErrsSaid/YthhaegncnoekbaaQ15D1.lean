/- The document's reader: next: a boolean, case D1. -/
import Derived.Test.YthhaegncnoekbaaYAA
import Derived.Test.YthhaegncnoekbaaYAG
namespace Go.Proofs.Ythhaegncnoekbaa
open Go.RowKit Go.BigM
set_option linter.unusedVariables false
set_option linter.unusedSimpArgs false
set_option maxHeartbeats 16000000 in
set_option maxRecDepth 100000 in
theorem next_hash_D1 {D : Nat → Prop} (g : Nat) (s : ByteArray) (p : Nat) (es : List En) (out : List Dt) (b : UInt8) (w : World) (h : RdAt D w.heap.size w g s p es out) (hgN : g < w.heap.size) (hp : p < s.size) (hb : s[p] = b) (hs : s.size ≤ 8000) (hB : Bnd es out p) (hbv : b = 35) (hp1 : p + 1 < s.size) (h116 : ¬ (s[p + 1]'hp1).toNat = 116) (h102 : (s[p + 1]'hp1).toNat = 102) (hp2 : p + 2 < s.size) (hsg : sset.contains (s[p + 2]'hp2) = true) :
    Calls Try.prog 64 #[.pointer (some ⟨g, 0, none⟩)] w (RetNx g s p b es out w) := by
  obtain ⟨ao, c, bo, dd, hf⟩ := h.form
  obtain ⟨dv, hdv⟩ : ∃ v, v = Value.slice bo out.length dd := ⟨_, rfl⟩
  rw [← hdv] at hf
  have HS := Lib.hid (Stt.start h)
  have HR := Lib.hid hf
  have HB := Lib.hid hB
  have HBB := Lib.hid hb
  have hel : es.length ≤ 60 := hB.2.2
  clear h hB hdv hf hb
  have HBV := Lib.hid hbv
  have hbn : b.toNat = 35 := by rw [hbv]; rfl
  have HNE : Hid (b ≠ 40 ∧ b ≠ 39 ∧ b ≠ 41) := by show _ ∧ _; rw [hbv]; decide
  have E40 : ((b.toNat : Int) == 40) = false := by simpa using (show ¬ (b.toNat : Int) = 40 by omega)
  have E39 : ((b.toNat : Int) == 39) = false := by simpa using (show ¬ (b.toNat : Int) = 39 by omega)
  have E41 : ((b.toNat : Int) == 41) = false := by simpa using (show ¬ (b.toNat : Int) = 41 by omega)
  have E35 : ((b.toNat : Int) == 35) = true := by simpa using (show (b.toNat : Int) = 35 by omega)
  have e9 : IntKind.i64.wrap ((p : Int) + 1) = (p : Int) + 1 := by rw [IntKind.wrap_i64]; omega
  have e10 : IntKind.i64.wrap ((p : Int) + 2) = (p : Int) + 2 := by rw [IntKind.wrap_i64]; omega
  clear hbv hbn
  have q1 : decide ((s.size : Int) ≤ (p : Int) + 1) = false := decide_eq_false (by omega)
  have HCC : Hid (s[p + 1]'hp1 = 116 ∨ s[p + 1]'hp1 = 102) := .inr (u8_is _ 102 h102)
  have F116 : (((s[p + 1]'hp1).toNat : Int) == 116) = false := by rw [beq_eq_false_iff_ne]; omega
  have G116 : (((s[p + 1]'hp1).toNat : Int) != 116) = true := by simp [bne, F116]
  have F102 : (((s[p + 1]'hp1).toNat : Int) == 102) = true := by rw [beq_iff_eq]; omega
  have G102 : (((s[p + 1]'hp1).toNat : Int) != 102) = false := by simp [bne, F102]
  clear h116 h102
  have q2 : decide ((p : Int) + 2 < (s.size : Int)) = true := decide_eq_true (by omega)
  have HSG := Lib.hid hsg
  go_enter Try.func64, Try.ntmps64
  go_upto_region 1 with fail
  have HC : Hid (∀ w', Below w.heap.size w w' → w'.cell? ⟨g, 0, none⟩ = some (.string s) ∧ w'.cell? ⟨g, 1, none⟩ = some (.int .i64 (p : Int)) ∧ w'.cell? ⟨g, 2, none⟩ = some (.slice ao es.length c) ∧ w'.cell? ⟨g, 3, none⟩ = some dv) := fun w' hw' => by
    have h9 : w'.heap[g]? = some (.cells #[.string s, .int .i64 (p : Int), .slice ao es.length c, dv] 114 (0, 0)) := by rw [hw'.block g HR.out.lt]; exact HR.out
    exact Rs3.cells (p := p) h9
  have HS0 : Hid (Below w.heap.size w w.drew) := (Below.refl _ _).drew
  replace HS : Hid (Stt D g s p es out w w.drew) := HS.out.drew HR.out.lt
  replace HR : Hid (Rs3 w.drew g s p (.slice ao es.length c) dv) := HR.out
  refine wp_region_noPanic ?_
  refine wp_region_held_drew (S := Below w.heap.size w) (by kernel_rfl) HS0.out (fun hHeld => ?_)
  generalize w.drew = X1 at HS0 HS HR hHeld ⊢
  refine wpAnyH_take (i := 0) (v := ?v505) rfl (by kernel_rfl) (by kernel_rfl) (by kernel_rfl) (fun _ _ _ h => h) (Or.inl ⟨rfl, fun w' hw' => ?h505⟩) hHeld ?r505
  case h505 =>
    go_simp
    try with_reducible rfl
  simp only [zt, zs, zz, Act.put, zi, zy, zx]
  refine wpAnyH_take (i := 1) (v := ?v506) rfl (by kernel_rfl) (by kernel_rfl) (by kernel_rfl) (fun _ _ _ h => h) (Or.inl ⟨rfl, fun w' hw' => ?h506⟩) hHeld ?r506
  case h506 =>
    go_simp
    try with_reducible rfl
  simp only [zt, zs, zz, Act.put, zi, zy, zx]
  refine wpAnyH_take (i := 2) (v := ?v507) rfl (by kernel_rfl) (by kernel_rfl) (by kernel_rfl) (fun _ _ _ h => h) (Or.inl ⟨rfl, fun w' hw' => ?h507⟩) hHeld ?r507
  case h507 =>
    go_simp
    try with_reducible rfl
  simp only [zt, zs, zz, Act.put, zi, zy, zx]
  refine wpAnyH_take (i := 3) (v := ?v508) rfl (by kernel_rfl) (by kernel_rfl) (by kernel_rfl) (fun _ _ _ h => h) (Or.inl ⟨rfl, fun w' hw' => ?h508⟩) hHeld ?r508
  case h508 =>
    (obtain ⟨d0, d1, d2, d3⟩ := HC.out w' hw'; go_simp)
    try with_reducible rfl
  simp only [zt, zs, zz, Act.put, zi, zy, zx]
  refine wpAnyH_take (i := 4) (v := ?v509) rfl (by kernel_rfl) (by kernel_rfl) (by kernel_rfl) (fun _ _ _ h => h) (Or.inl ⟨rfl, fun w' hw' => ?h509⟩) hHeld ?r509
  case h509 =>
    go_simp
    try with_reducible rfl
  simp only [zt, zs, zz, Act.put, zi, zy, zx]
  refine wpAnyH_take (i := 5) (v := ?v510) rfl (by kernel_rfl) (by kernel_rfl) (by kernel_rfl) (fun _ _ _ h => h) (Or.inl ⟨rfl, fun w' hw' => ?h510⟩) hHeld ?r510
  case h510 =>
    go_simp
    try with_reducible rfl
  simp only [zt, zs, zz, Act.put, zi, zy, zx]
  refine wpAnyH_take (i := 6) (v := ?v511) rfl (by kernel_rfl) (by kernel_rfl) (by kernel_rfl) (fun _ _ _ h => h) (Or.inl ⟨rfl, fun w' hw' => ?h511⟩) hHeld ?r511
  case h511 =>
    go_simp
    try with_reducible rfl
  simp only [zt, zs, zz, Act.put, zi, zy, zx]
  refine wpAnyH_take (i := 7) (v := ?v512) rfl (by kernel_rfl) (by kernel_rfl) (by kernel_rfl) (fun _ _ _ h => h) (Or.inl ⟨rfl, fun w' hw' => ?h512⟩) hHeld ?r512
  case h512 =>
    (obtain ⟨d0, d1, d2, d3⟩ := HC.out w' hw'; go_simp)
    try with_reducible rfl
  simp only [zt, zs, zz, Act.put, zi, zy, zx]
  refine wpAnyH_take (i := 8) (v := Value.int .u8 ((s[p]'hp).toNat : Int)) rfl (by kernel_rfl) (by kernel_rfl) (by kernel_rfl) (fun _ _ _ h => h) (Or.inl ⟨rfl, fun w' hw' => ?_⟩) hHeld ?_
  · go_simp
  simp only [zt, zs, zz, Act.put, zi, zy, zx]
  refine wpAnyH_take (i := 9) (v := ?v514) rfl (by kernel_rfl) (by kernel_rfl) (by kernel_rfl) (fun _ _ _ h => h) (Or.inl ⟨rfl, fun w' hw' => ?h514⟩) hHeld ?r514
  case h514 =>
    go_simp
    try with_reducible rfl
  simp only [zt, zs, zz, Act.put, zi, zy, zx]
  refine wpAnyH_done (by kernel_rfl) ?_ _
  refine NoPanic.normal ?_
  clear hHeld
  clear HC HS0
  rw [HBB.out]
  have HN : Hid (nxt s p b es out = (3, p, es, out)) := by
    show _ = _
    rw [nxt_tok HNE.out.1 HNE.out.2.1 HNE.out.2.2 (by rw [hash_b hp (by rw [HBB.out]; exact HBV.out) hp1, if_neg (fun h => by have h1 := row_pos hp2 HSG.out; have h2 := h.2; omega)])]
  go_upto_region 16 with fail
  have HC : Hid (∀ w', Below X1.heap.size X1 w' → w'.cell? ⟨g, 0, none⟩ = some (.string s) ∧ w'.cell? ⟨g, 1, none⟩ = some (.int .i64 (p : Int)) ∧ w'.cell? ⟨g, 2, none⟩ = some (.slice ao es.length c) ∧ w'.cell? ⟨g, 3, none⟩ = some dv) := fun w' hw' => by
    have h9 : w'.heap[g]? = some (.cells #[.string s, .int .i64 (p : Int), .slice ao es.length c, dv] 114 (0, 0)) := by rw [hw'.block g HR.out.lt]; exact HR.out
    exact Rs3.cells (p := p) h9
  have HS0 : Hid (Below X1.heap.size X1 X1.drew) := (Below.refl _ _).drew
  replace HS : Hid (Stt D g s p es out w X1.drew) := HS.out.drew HR.out.lt
  replace HR : Hid (Rs3 X1.drew g s p (.slice ao es.length c) dv) := HR.out
  refine wp_region_noPanic ?_
  refine wp_region_held_drew (S := Below X1.heap.size X1) (by kernel_rfl) HS0.out (fun hHeld => ?_)
  generalize X1.drew = X2 at HS0 HS HR hHeld ⊢
  refine wpAnyH_take (i := 0) (v := ?v443) rfl (by kernel_rfl) (by kernel_rfl) (by kernel_rfl) (fun _ _ _ h => h) (Or.inl ⟨rfl, fun w' hw' => ?h443⟩) hHeld ?r443
  case h443 =>
    go_simp
    try with_reducible rfl
  simp only [zt, zs, zz, Act.put, zi, zy, zx]
  refine wpAnyH_take (i := 1) (v := ?v444) rfl (by kernel_rfl) (by kernel_rfl) (by kernel_rfl) (fun _ _ _ h => h) (Or.inl ⟨rfl, fun w' hw' => ?h444⟩) hHeld ?r444
  case h444 =>
    go_simp
    try with_reducible rfl
  simp only [zt, zs, zz, Act.put, zi, zy, zx]
  refine wpAnyH_take (i := 2) (v := ?v445) rfl (by kernel_rfl) (by kernel_rfl) (by kernel_rfl) (fun _ _ _ h => h) (Or.inl ⟨rfl, fun w' hw' => ?h445⟩) hHeld ?r445
  case h445 =>
    go_simp
    try with_reducible rfl
  simp only [zt, zs, zz, Act.put, zi, zy, zx]
  refine wpAnyH_take (i := 3) (v := ?v446) rfl (by kernel_rfl) (by kernel_rfl) (by kernel_rfl) (fun _ _ _ h => h) (Or.inl ⟨rfl, fun w' hw' => ?h446⟩) hHeld ?r446
  case h446 =>
    (obtain ⟨d0, d1, d2, d3⟩ := HC.out w' hw'; go_simp)
    try with_reducible rfl
  simp only [zt, zs, zz, Act.put, zi, zy, zx]
  refine wpAnyH_take (i := 4) (v := Value.int .i64 ((p : Int) + 1)) rfl (by kernel_rfl) (by kernel_rfl) (by kernel_rfl) (fun _ _ _ h => h) (Or.inl ⟨rfl, fun w' hw' => ?_⟩) hHeld ?_
  · go_simp; try omega
  simp only [zt, zs, zz, Act.put, zi, zy, zx]
  refine wpAnyH_take (i := 5) (v := ?v448) rfl (by kernel_rfl) (by kernel_rfl) (by kernel_rfl) (fun _ _ _ h => h) (Or.inl ⟨rfl, fun w' hw' => ?h448⟩) hHeld ?r448
  case h448 =>
    go_simp
    try with_reducible rfl
  simp only [zt, zs, zz, Act.put, zi, zy, zx]
  refine wpAnyH_take (i := 6) (v := ?v449) rfl (by kernel_rfl) (by kernel_rfl) (by kernel_rfl) (fun _ _ _ h => h) (Or.inl ⟨rfl, fun w' hw' => ?h449⟩) hHeld ?r449
  case h449 =>
    go_simp
    try with_reducible rfl
  simp only [zt, zs, zz, Act.put, zi, zy, zx]
  refine wpAnyH_take (i := 7) (v := ?v450) rfl (by kernel_rfl) (by kernel_rfl) (by kernel_rfl) (fun _ _ _ h => h) (Or.inl ⟨rfl, fun w' hw' => ?h450⟩) hHeld ?r450
  case h450 =>
    go_simp
    try with_reducible rfl
  simp only [zt, zs, zz, Act.put, zi, zy, zx]
  refine wpAnyH_take (i := 8) (v := ?v451) rfl (by kernel_rfl) (by kernel_rfl) (by kernel_rfl) (fun _ _ _ h => h) (Or.inl ⟨rfl, fun w' hw' => ?h451⟩) hHeld ?r451
  case h451 =>
    (obtain ⟨d0, d1, d2, d3⟩ := HC.out w' hw'; go_simp)
    try with_reducible rfl
  simp only [zt, zs, zz, Act.put, zi, zy, zx]
  refine wpAnyH_take (i := 9) (v := ?v452) rfl (by kernel_rfl) (by kernel_rfl) (by kernel_rfl) (fun _ _ _ h => h) (Or.inl ⟨rfl, fun w' hw' => ?h452⟩) hHeld ?r452
  case h452 =>
    go_simp
    try with_reducible rfl
  simp only [zt, zs, zz, Act.put, zi, zy, zx]
  refine wpAnyH_take (i := 10) (v := Value.bool false) rfl (by kernel_rfl) (by kernel_rfl) (by kernel_rfl) (fun _ _ _ h => h) (Or.inl ⟨rfl, fun w' hw' => ?_⟩) hHeld ?_
  · go_simp; try omega
  simp only [zt, zs, zz, Act.put, zi, zy, zx]
  refine wpAnyH_take (i := 11) (v := Value.bool false) rfl (by kernel_rfl) (by kernel_rfl) (by kernel_rfl) (fun _ _ _ h => h) (Or.inl ⟨rfl, fun w' hw' => ?_⟩) hHeld ?_
  · go_simp; try omega
  simp only [zt, zs, zz, Act.put, zi, zy, zx]
  refine wpAnyH_take (i := 12) (v := ?v455) rfl (by kernel_rfl) (by kernel_rfl) (by kernel_rfl) (fun _ _ _ h => h) (Or.inl ⟨rfl, fun w' hw' => ?h455⟩) hHeld ?r455
  case h455 =>
    go_simp
    try with_reducible rfl
  simp only [zt, zs, zz, Act.put, zi, zy, zx]
  refine wpAnyH_take (i := 13) (v := ?v456) rfl (by kernel_rfl) (by kernel_rfl) (by kernel_rfl) (fun _ _ _ h => h) (Or.inl ⟨rfl, fun w' hw' => ?h456⟩) hHeld ?r456
  case h456 =>
    go_simp
    try with_reducible rfl
  simp only [zt, zs, zz, Act.put, zi, zy, zx]
  refine wpAnyH_take (i := 14) (v := ?v457) rfl (by kernel_rfl) (by kernel_rfl) (by kernel_rfl) (fun _ _ _ h => h) (Or.inl ⟨rfl, fun w' hw' => ?h457⟩) hHeld ?r457
  case h457 =>
    go_simp
    try with_reducible rfl
  simp only [zt, zs, zz, Act.put, zi, zy, zx]
  refine wpAnyH_take (i := 15) (v := ?v458) rfl (by kernel_rfl) (by kernel_rfl) (by kernel_rfl) (fun _ _ _ h => h) (Or.inl ⟨rfl, fun w' hw' => ?h458⟩) hHeld ?r458
  case h458 =>
    (obtain ⟨d0, d1, d2, d3⟩ := HC.out w' hw'; go_simp)
    try with_reducible rfl
  simp only [zt, zs, zz, Act.put, zi, zy, zx]
  refine wpAnyH_take (i := 16) (v := ?v459) rfl (by kernel_rfl) (by kernel_rfl) (by kernel_rfl) (fun _ _ _ h => h) (Or.inl ⟨rfl, fun w' hw' => ?h459⟩) hHeld ?r459
  case h459 =>
    go_simp
    try with_reducible rfl
  simp only [zt, zs, zz, Act.put, zi, zy, zx]
  refine wpAnyH_take (i := 17) (v := ?v460) rfl (by kernel_rfl) (by kernel_rfl) (by kernel_rfl) (fun _ _ _ h => h) (Or.inl ⟨rfl, fun w' hw' => ?h460⟩) hHeld ?r460
  case h460 =>
    go_simp
    try with_reducible rfl
  simp only [zt, zs, zz, Act.put, zi, zy, zx]
  refine wpAnyH_take (i := 18) (v := ?v461) rfl (by kernel_rfl) (by kernel_rfl) (by kernel_rfl) (fun _ _ _ h => h) (Or.inl ⟨rfl, fun w' hw' => ?h461⟩) hHeld ?r461
  case h461 =>
    go_simp
    try with_reducible rfl
  simp only [zt, zs, zz, Act.put, zi, zy, zx]
  refine wpAnyH_take (i := 19) (v := ?v462) rfl (by kernel_rfl) (by kernel_rfl) (by kernel_rfl) (fun _ _ _ h => h) (Or.inl ⟨rfl, fun w' hw' => ?h462⟩) hHeld ?r462
  case h462 =>
    (obtain ⟨d0, d1, d2, d3⟩ := HC.out w' hw'; go_simp)
    try with_reducible rfl
  simp only [zt, zs, zz, Act.put, zi, zy, zx]
  refine wpAnyH_take (i := 20) (v := Value.int .i64 ((p : Int) + 1)) rfl (by kernel_rfl) (by kernel_rfl) (by kernel_rfl) (fun _ _ _ h => h) (Or.inl ⟨rfl, fun w' hw' => ?_⟩) hHeld ?_
  · go_simp; try omega
  simp only [zt, zs, zz, Act.put, zi, zy, zx]
  refine wpAnyH_take (i := 21) (v := Value.int .u8 ((s[p + 1]'hp1).toNat : Int)) rfl (by kernel_rfl) (by kernel_rfl) (by kernel_rfl) (fun _ _ _ h => h) (Or.inl ⟨rfl, fun w' hw' => ?_⟩) hHeld ?_
  · go_simp; rw [dif_pos (by omega)]; rfl
  simp only [zt, zs, zz, Act.put, zi, zy, zx]
  refine wpAnyH_take (i := 22) (v := Value.bool true) rfl (by kernel_rfl) (by kernel_rfl) (by kernel_rfl) (fun _ _ _ h => h) (Or.inl ⟨rfl, fun w' hw' => ?_⟩) hHeld ?_
  · go_simp; try omega
  simp only [zt, zs, zz, Act.put, zi, zy, zx]
  refine wpAnyH_take (i := 23) (v := Value.bool true) rfl (by kernel_rfl) (by kernel_rfl) (by kernel_rfl) (fun _ _ _ h => h) (Or.inl ⟨rfl, fun w' hw' => ?_⟩) hHeld ?_
  · go_simp; try omega
  simp only [zt, zs, zz, Act.put, zi, zy, zx]
  refine wpAnyH_take (i := 24) (v := ?v467) rfl (by kernel_rfl) (by kernel_rfl) (by kernel_rfl) (fun _ _ _ h => h) (Or.inl ⟨rfl, fun w' hw' => ?h467⟩) hHeld ?r467
  case h467 =>
    go_simp
    try with_reducible rfl
  simp only [zt, zs, zz, Act.put, zi, zy, zx]
  refine wpAnyH_take (i := 25) (v := ?v468) rfl (by kernel_rfl) (by kernel_rfl) (by kernel_rfl) (fun _ _ _ h => h) (Or.inl ⟨rfl, fun w' hw' => ?h468⟩) hHeld ?r468
  case h468 =>
    go_simp
    try with_reducible rfl
  simp only [zt, zs, zz, Act.put, zi, zy, zx]
  refine wpAnyH_take (i := 26) (v := ?v469) rfl (by kernel_rfl) (by kernel_rfl) (by kernel_rfl) (fun _ _ _ h => h) (Or.inl ⟨rfl, fun w' hw' => ?h469⟩) hHeld ?r469
  case h469 =>
    go_simp
    try with_reducible rfl
  simp only [zt, zs, zz, Act.put, zi, zy, zx]
  refine wpAnyH_take (i := 27) (v := ?v470) rfl (by kernel_rfl) (by kernel_rfl) (by kernel_rfl) (fun _ _ _ h => h) (Or.inl ⟨rfl, fun w' hw' => ?h470⟩) hHeld ?r470
  case h470 =>
    (obtain ⟨d0, d1, d2, d3⟩ := HC.out w' hw'; go_simp)
    try with_reducible rfl
  simp only [zt, zs, zz, Act.put, zi, zy, zx]
  refine wpAnyH_take (i := 28) (v := ?v471) rfl (by kernel_rfl) (by kernel_rfl) (by kernel_rfl) (fun _ _ _ h => h) (Or.inl ⟨rfl, fun w' hw' => ?h471⟩) hHeld ?r471
  case h471 =>
    go_simp
    try with_reducible rfl
  simp only [zt, zs, zz, Act.put, zi, zy, zx]
  refine wpAnyH_take (i := 29) (v := ?v472) rfl (by kernel_rfl) (by kernel_rfl) (by kernel_rfl) (fun _ _ _ h => h) (Or.inl ⟨rfl, fun w' hw' => ?h472⟩) hHeld ?r472
  case h472 =>
    go_simp
    try with_reducible rfl
  simp only [zt, zs, zz, Act.put, zi, zy, zx]
  refine wpAnyH_take (i := 30) (v := ?v473) rfl (by kernel_rfl) (by kernel_rfl) (by kernel_rfl) (fun _ _ _ h => h) (Or.inl ⟨rfl, fun w' hw' => ?h473⟩) hHeld ?r473
  case h473 =>
    go_simp
    try with_reducible rfl
  simp only [zt, zs, zz, Act.put, zi, zy, zx]
  refine wpAnyH_take (i := 31) (v := ?v474) rfl (by kernel_rfl) (by kernel_rfl) (by kernel_rfl) (fun _ _ _ h => h) (Or.inl ⟨rfl, fun w' hw' => ?h474⟩) hHeld ?r474
  case h474 =>
    (obtain ⟨d0, d1, d2, d3⟩ := HC.out w' hw'; go_simp)
    try with_reducible rfl
  simp only [zt, zs, zz, Act.put, zi, zy, zx]
  refine wpAnyH_take (i := 32) (v := Value.int .i64 ((p : Int) + 1)) rfl (by kernel_rfl) (by kernel_rfl) (by kernel_rfl) (fun _ _ _ h => h) (Or.inl ⟨rfl, fun w' hw' => ?_⟩) hHeld ?_
  · go_simp; try omega
  simp only [zt, zs, zz, Act.put, zi, zy, zx]
  refine wpAnyH_take (i := 33) (v := Value.int .u8 ((s[p + 1]'hp1).toNat : Int)) rfl (by kernel_rfl) (by kernel_rfl) (by kernel_rfl) (fun _ _ _ h => h) (Or.inl ⟨rfl, fun w' hw' => ?_⟩) hHeld ?_
  · go_simp; rw [dif_pos (by omega)]; rfl
  simp only [zt, zs, zz, Act.put, zi, zy, zx]
  refine wpAnyH_take (i := 34) (v := Value.bool false) rfl (by kernel_rfl) (by kernel_rfl) (by kernel_rfl) (fun _ _ _ h => h) (Or.inl ⟨rfl, fun w' hw' => ?_⟩) hHeld ?_
  · go_simp; try omega
  simp only [zt, zs, zz, Act.put, zi, zy, zx]
  refine wpAnyH_take (i := 35) (v := Value.bool false) rfl (by kernel_rfl) (by kernel_rfl) (by kernel_rfl) (fun _ _ _ h => h) (Or.inl ⟨rfl, fun w' hw' => ?_⟩) hHeld ?_
  · go_simp; try omega
  simp only [zt, zs, zz, Act.put, zi, zy, zx]
  refine wpAnyH_take (i := 36) (v := Value.bool false) rfl (by kernel_rfl) (by kernel_rfl) (by kernel_rfl) (fun _ _ _ h => h) (Or.inl ⟨rfl, fun w' hw' => ?_⟩) hHeld ?_
  · go_simp; try omega
  simp only [zt, zs, zz, Act.put, zi, zy, zx]
  refine wpAnyH_take (i := 37) (v := Value.bool false) rfl (by kernel_rfl) (by kernel_rfl) (by kernel_rfl) (fun _ _ _ h => h) (Or.inl ⟨rfl, fun w' hw' => ?_⟩) hHeld ?_
  · go_simp; try omega
  simp only [zt, zs, zz, Act.put, zi, zy, zx]
  refine wpAnyH_take (i := 38) (v := ?v481) rfl (by kernel_rfl) (by kernel_rfl) (by kernel_rfl) (fun _ _ _ h => h) (Or.inl ⟨rfl, fun w' hw' => ?h481⟩) hHeld ?r481
  case h481 =>
    go_simp
    try with_reducible rfl
  simp only [zt, zs, zz, Act.put, zi, zy, zx]
  refine wpAnyH_take (i := 39) (v := ?v482) rfl (by kernel_rfl) (by kernel_rfl) (by kernel_rfl) (fun _ _ _ h => h) (Or.inl ⟨rfl, fun w' hw' => ?h482⟩) hHeld ?r482
  case h482 =>
    go_simp
    try with_reducible rfl
  simp only [zt, zs, zz, Act.put, zi, zy, zx]
  refine wpAnyH_take (i := 40) (v := ?v483) rfl (by kernel_rfl) (by kernel_rfl) (by kernel_rfl) (fun _ _ _ h => h) (Or.inl ⟨rfl, fun w' hw' => ?h483⟩) hHeld ?r483
  case h483 =>
    go_simp
    try with_reducible rfl
  simp only [zt, zs, zz, Act.put, zi, zy, zx]
  refine wpAnyH_take (i := 41) (v := ?v484) rfl (by kernel_rfl) (by kernel_rfl) (by kernel_rfl) (fun _ _ _ h => h) (Or.inl ⟨rfl, fun w' hw' => ?h484⟩) hHeld ?r484
  case h484 =>
    (obtain ⟨d0, d1, d2, d3⟩ := HC.out w' hw'; go_simp)
    try with_reducible rfl
  simp only [zt, zs, zz, Act.put, zi, zy, zx]
  refine wpAnyH_take (i := 42) (v := Value.int .i64 ((p : Int) + 2)) rfl (by kernel_rfl) (by kernel_rfl) (by kernel_rfl) (fun _ _ _ h => h) (Or.inl ⟨rfl, fun w' hw' => ?_⟩) hHeld ?_
  · go_simp; try omega
  simp only [zt, zs, zz, Act.put, zi, zy, zx]
  refine wpAnyH_take (i := 43) (v := ?v486) rfl (by kernel_rfl) (by kernel_rfl) (by kernel_rfl) (fun _ _ _ h => h) (Or.inl ⟨rfl, fun w' hw' => ?h486⟩) hHeld ?r486
  case h486 =>
    go_simp
    try with_reducible rfl
  simp only [zt, zs, zz, Act.put, zi, zy, zx]
  refine wpAnyH_take (i := 44) (v := ?v487) rfl (by kernel_rfl) (by kernel_rfl) (by kernel_rfl) (fun _ _ _ h => h) (Or.inl ⟨rfl, fun w' hw' => ?h487⟩) hHeld ?r487
  case h487 =>
    go_simp
    try with_reducible rfl
  simp only [zt, zs, zz, Act.put, zi, zy, zx]
  refine wpAnyH_take (i := 45) (v := ?v488) rfl (by kernel_rfl) (by kernel_rfl) (by kernel_rfl) (fun _ _ _ h => h) (Or.inl ⟨rfl, fun w' hw' => ?h488⟩) hHeld ?r488
  case h488 =>
    go_simp
    try with_reducible rfl
  simp only [zt, zs, zz, Act.put, zi, zy, zx]
  refine wpAnyH_take (i := 46) (v := ?v489) rfl (by kernel_rfl) (by kernel_rfl) (by kernel_rfl) (fun _ _ _ h => h) (Or.inl ⟨rfl, fun w' hw' => ?h489⟩) hHeld ?r489
  case h489 =>
    (obtain ⟨d0, d1, d2, d3⟩ := HC.out w' hw'; go_simp)
    try with_reducible rfl
  simp only [zt, zs, zz, Act.put, zi, zy, zx]
  refine wpAnyH_take (i := 47) (v := ?v490) rfl (by kernel_rfl) (by kernel_rfl) (by kernel_rfl) (fun _ _ _ h => h) (Or.inl ⟨rfl, fun w' hw' => ?h490⟩) hHeld ?r490
  case h490 =>
    go_simp
    try with_reducible rfl
  simp only [zt, zs, zz, Act.put, zi, zy, zx]
  refine wpAnyH_take (i := 48) (v := Value.bool true) rfl (by kernel_rfl) (by kernel_rfl) (by kernel_rfl) (fun _ _ _ h => h) (Or.inl ⟨rfl, fun w' hw' => ?_⟩) hHeld ?_
  · go_simp; try omega
  simp only [zt, zs, zz, Act.put, zi, zy, zx]
  refine wpAnyH_take (i := 49) (v := Value.bool true) rfl (by kernel_rfl) (by kernel_rfl) (by kernel_rfl) (fun _ _ _ h => h) (Or.inl ⟨rfl, fun w' hw' => ?_⟩) hHeld ?_
  · go_simp; try omega
  simp only [zt, zs, zz, Act.put, zi, zy, zx]
  refine wpAnyH_take (i := 50) (v := ?v493) rfl (by kernel_rfl) (by kernel_rfl) (by kernel_rfl) (fun _ _ _ h => h) (Or.inl ⟨rfl, fun w' hw' => ?h493⟩) hHeld ?r493
  case h493 =>
    go_simp
    try with_reducible rfl
  simp only [zt, zs, zz, Act.put, zi, zy, zx]
  refine wpAnyH_take (i := 51) (v := ?v494) rfl (by kernel_rfl) (by kernel_rfl) (by kernel_rfl) (fun _ _ _ h => h) (Or.inl ⟨rfl, fun w' hw' => ?h494⟩) hHeld ?r494
  case h494 =>
    go_simp
    try with_reducible rfl
  simp only [zt, zs, zz, Act.put, zi, zy, zx]
  refine wpAnyH_take (i := 52) (v := ?v495) rfl (by kernel_rfl) (by kernel_rfl) (by kernel_rfl) (fun _ _ _ h => h) (Or.inl ⟨rfl, fun w' hw' => ?h495⟩) hHeld ?r495
  case h495 =>
    go_simp
    try with_reducible rfl
  simp only [zt, zs, zz, Act.put, zi, zy, zx]
  refine wpAnyH_take (i := 53) (v := ?v496) rfl (by kernel_rfl) (by kernel_rfl) (by kernel_rfl) (fun _ _ _ h => h) (Or.inl ⟨rfl, fun w' hw' => ?h496⟩) hHeld ?r496
  case h496 =>
    (obtain ⟨d0, d1, d2, d3⟩ := HC.out w' hw'; go_simp)
    try with_reducible rfl
  simp only [zt, zs, zz, Act.put, zi, zy, zx]
  refine wpAnyH_take (i := 54) (v := ?v497) rfl (by kernel_rfl) (by kernel_rfl) (by kernel_rfl) (fun _ _ _ h => h) (Or.inl ⟨rfl, fun w' hw' => ?h497⟩) hHeld ?r497
  case h497 =>
    go_simp
    try with_reducible rfl
  simp only [zt, zs, zz, Act.put, zi, zy, zx]
  refine wpAnyH_take (i := 55) (v := ?v498) rfl (by kernel_rfl) (by kernel_rfl) (by kernel_rfl) (fun _ _ _ h => h) (Or.inl ⟨rfl, fun w' hw' => ?h498⟩) hHeld ?r498
  case h498 =>
    go_simp
    try with_reducible rfl
  simp only [zt, zs, zz, Act.put, zi, zy, zx]
  refine wpAnyH_take (i := 56) (v := ?v499) rfl (by kernel_rfl) (by kernel_rfl) (by kernel_rfl) (fun _ _ _ h => h) (Or.inl ⟨rfl, fun w' hw' => ?h499⟩) hHeld ?r499
  case h499 =>
    go_simp
    try with_reducible rfl
  simp only [zt, zs, zz, Act.put, zi, zy, zx]
  refine wpAnyH_take (i := 57) (v := ?v500) rfl (by kernel_rfl) (by kernel_rfl) (by kernel_rfl) (fun _ _ _ h => h) (Or.inl ⟨rfl, fun w' hw' => ?h500⟩) hHeld ?r500
  case h500 =>
    (obtain ⟨d0, d1, d2, d3⟩ := HC.out w' hw'; go_simp)
    try with_reducible rfl
  simp only [zt, zs, zz, Act.put, zi, zy, zx]
  refine wpAnyH_take (i := 58) (v := Value.int .i64 ((p : Int) + 2)) rfl (by kernel_rfl) (by kernel_rfl) (by kernel_rfl) (fun _ _ _ h => h) (Or.inl ⟨rfl, fun w' hw' => ?_⟩) hHeld ?_
  · go_simp; try omega
  simp only [zt, zs, zz, Act.put, zi, zy, zx]
  refine wpAnyH_take (i := 59) (v := Value.int .u8 ((s[p + 2]'hp2).toNat : Int)) rfl (by kernel_rfl) (by kernel_rfl) (by kernel_rfl) (fun _ _ _ h => h) (Or.inl ⟨rfl, fun w' hw' => ?_⟩) hHeld ?_
  · go_simp; rw [dif_pos (by omega)]; have e : ((p : Int) + 2).toNat = p + 2 := (by omega); simp only [e]; rfl
  simp only [zt, zs, zz, Act.put, zi, zy, zx]
  refine wpAnyH_ready (rs := [60]) (by kernel_rfl) (by simp) ?_
  refine (AllReadyH.cons rfl (fun K hK => ?_) AllReadyH.nil)
  go_simp
  refine (sign_any _ _).mono ?_
  rintro e w' ⟨rfl, rfl⟩
  simp only [hsg]
  refine hK.out _ _ hHeld (fun hHeld => ?_)
  clear hK K
  try simp only [zt, zs, zz, Act.put, zi, zy, zx]
  refine wpAnyH_take (i := 61) (v := Value.bool true) rfl (by kernel_rfl) (by kernel_rfl) (by kernel_rfl) (fun _ _ _ h => h) (Or.inl ⟨rfl, fun w' hw' => ?_⟩) hHeld ?_
  · go_simp; try omega
  simp only [zt, zs, zz, Act.put, zi, zy, zx]
  refine wpAnyH_take (i := 62) (v := Value.bool true) rfl (by kernel_rfl) (by kernel_rfl) (by kernel_rfl) (fun _ _ _ h => h) (Or.inl ⟨rfl, fun w' hw' => ?_⟩) hHeld ?_
  · go_simp; try omega
  simp only [zt, zs, zz, Act.put, zi, zy, zx]
  refine wpAnyH_done (by kernel_rfl) ?_ _
  refine NoPanic.normal ?_
  clear hHeld
  clear HC HS0
  go_wp2_with fail
  go_ret
  have hn := HN.out
  unfold RetNx
  rw [hn]
  exact ⟨rfl, HS.out.low, HS.out.size, fun h => absurd h (by simp), fun _ => ⟨_, _, HR.out⟩⟩
end Go.Proofs.Ythhaegncnoekbaa
