/- The document's reader: next: a boolean, case C3. -/
import Derived.Test.YthhaegncnoekbaaYAA
import Derived.Test.YthhaegncnoekbaaYAG
namespace Go.Proofs.Ythhaegncnoekbaa
open Go.RowKit Go.BigM
set_option linter.unusedVariables false
set_option linter.unusedSimpArgs false
set_option maxHeartbeats 16000000 in
set_option maxRecDepth 100000 in
theorem next_hash_C3 {D : Nat → Prop} (g : Nat) (s : ByteArray) (p : Nat) (es : List En) (out : List Dt) (b : UInt8) (w : World) (h : RdAt D w.heap.size w g s p es out) (hgN : g < w.heap.size) (hp : p < s.size) (hb : s[p] = b) (hs : s.size ≤ 8000) (hB : Bnd es out p) (hbv : b = 35) (hp1 : p + 1 < s.size) (h116 : (s[p + 1]'hp1).toNat = 116) (hp2 : ¬ p + 2 < s.size) :
    Calls Try.prog 64 #[.pointer (some ⟨g, 0, none⟩)] w (RetNx g s p b es out w) := by
  obtain ⟨ao, c, bo, dd, hf⟩ := h.form
  obtain ⟨dv, hdv⟩ : ∃ v, v = Value.slice bo out.length dd := ⟨_, rfl⟩
  rw [← hdv] at hf
  have HS := Lib.hid (Stt.start h)
  have HR := Lib.hid hf
  have HB := Lib.hid hB
  have HBB := Lib.hid hb
  have hel : es.length ≤ 60 := hB.2.2
  clear h hB hdv hf hb
  have HBV := Lib.hid hbv
  have hbn : b.toNat = 35 := by rw [hbv]; rfl
  have HNE : Hid (b ≠ 40 ∧ b ≠ 39 ∧ b ≠ 41) := by show _ ∧ _; rw [hbv]; decide
  have E40 : ((b.toNat : Int) == 40) = false := by simpa using (show ¬ (b.toNat : Int) = 40 by omega)
  have E39 : ((b.toNat : Int) == 39) = false := by simpa using (show ¬ (b.toNat : Int) = 39 by omega)
  have E41 : ((b.toNat : Int) == 41) = false := by simpa using (show ¬ (b.toNat : Int) = 41 by omega)
  have E35 : ((b.toNat : Int) == 35) = true := by simpa using (show (b.toNat : Int) = 35 by omega)
  have e9 : IntKind.i64.wrap ((p : Int) + 1) = (p : Int) + 1 := by rw [IntKind.wrap_i64]; omega
  have e10 : IntKind.i64.wrap ((p : Int) + 2) = (p : Int) + 2 := by rw [IntKind.wrap_i64]; omega
  clear hbv hbn
  have q1 : decide ((s.size : Int) ≤ (p : Int) + 1) = false := decide_eq_false (by omega)
  have HCC : Hid (s[p + 1]'hp1 = 116 ∨ s[p + 1]'hp1 = 102) := .inl (u8_is _ 116 h116)
  have F116 : (((s[p + 1]'hp1).toNat : Int) == 116) = true := by rw [beq_iff_eq]; omega
  have G116 : (((s[p + 1]'hp1).toNat : Int) != 116) = false := by simp [bne, F116]
  clear h116
  have q2 : decide ((p : Int) + 2 < (s.size : Int)) = false := decide_eq_false (by omega)
  go_enter Try.func64, Try.ntmps64
  go_upto_region 1 with fail
  have HC : Hid (∀ w', Below w.heap.size w w' → w'.cell? ⟨g, 0, none⟩ = some (.string s) ∧ w'.cell? ⟨g, 1, none⟩ = some (.int .i64 (p : Int)) ∧ w'.cell? ⟨g, 2, none⟩ = some (.slice ao es.length c) ∧ w'.cell? ⟨g, 3, none⟩ = some dv) := fun w' hw' => by
    have h9 : w'.heap[g]? = some (.cells #[.string s, .int .i64 (p : Int), .slice ao es.length c, dv] 114 (0, 0)) := by rw [hw'.block g HR.out.lt]; exact HR.out
    exact Rs3.cells (p := p) h9
  have HS0 : Hid (Below w.heap.size w w.drew) := (Below.refl _ _).drew
  replace HS : Hid (Stt D g s p es out w w.drew) := HS.out.drew HR.out.lt
  replace HR : Hid (Rs3 w.drew g s p (.slice ao es.length c) dv) := HR.out
  refine wp_region_noPanic ?_
  refine wp_region_held_drew (S := Below w.heap.size w) (by kernel_rfl) HS0.out (fun hHeld => ?_)
  generalize w.drew = X1 at HS0 HS HR hHeld ⊢
  refine wpAnyH_take (i := 0) (v := ?v433) rfl (by kernel_rfl) (by kernel_rfl) (by kernel_rfl) (fun _ _ _ h => h) (Or.inl ⟨rfl, fun w' hw' => ?h433⟩) hHeld ?r433
  case h433 =>
    go_simp
    try with_reducible rfl
  simp only [zt, zs, zz, Act.put, zi, zy, zx]
  refine wpAnyH_take (i := 1) (v := ?v434) rfl (by kernel_rfl) (by kernel_rfl) (by kernel_rfl) (fun _ _ _ h => h) (Or.inl ⟨rfl, fun w' hw' => ?h434⟩) hHeld ?r434
  case h434 =>
    go_simp
    try with_reducible rfl
  simp only [zt, zs, zz, Act.put, zi, zy, zx]
  refine wpAnyH_take (i := 2) (v := ?v435) rfl (by kernel_rfl) (by kernel_rfl) (by kernel_rfl) (fun _ _ _ h => h) (Or.inl ⟨rfl, fun w' hw' => ?h435⟩) hHeld ?r435
  case h435 =>
    go_simp
    try with_reducible rfl
  simp only [zt, zs, zz, Act.put, zi, zy, zx]
  refine wpAnyH_take (i := 3) (v := ?v436) rfl (by kernel_rfl) (by kernel_rfl) (by kernel_rfl) (fun _ _ _ h => h) (Or.inl ⟨rfl, fun w' hw' => ?h436⟩) hHeld ?r436
  case h436 =>
    (obtain ⟨d0, d1, d2, d3⟩ := HC.out w' hw'; go_simp)
    try with_reducible rfl
  simp only [zt, zs, zz, Act.put, zi, zy, zx]
  refine wpAnyH_take (i := 4) (v := ?v437) rfl (by kernel_rfl) (by kernel_rfl) (by kernel_rfl) (fun _ _ _ h => h) (Or.inl ⟨rfl, fun w' hw' => ?h437⟩) hHeld ?r437
  case h437 =>
    go_simp
    try with_reducible rfl
  simp only [zt, zs, zz, Act.put, zi, zy, zx]
  refine wpAnyH_take (i := 5) (v := ?v438) rfl (by kernel_rfl) (by kernel_rfl) (by kernel_rfl) (fun _ _ _ h => h) (Or.inl ⟨rfl, fun w' hw' => ?h438⟩) hHeld ?r438
  case h438 =>
    go_simp
    try with_reducible rfl
  simp only [zt, zs, zz, Act.put, zi, zy, zx]
  refine wpAnyH_take (i := 6) (v := ?v439) rfl (by kernel_rfl) (by kernel_rfl) (by kernel_rfl) (fun _ _ _ h => h) (Or.inl ⟨rfl, fun w' hw' => ?h439⟩) hHeld ?r439
  case h439 =>
    go_simp
    try with_reducible rfl
  simp only [zt, zs, zz, Act.put, zi, zy, zx]
  refine wpAnyH_take (i := 7) (v := ?v440) rfl (by kernel_rfl) (by kernel_rfl) (by kernel_rfl) (fun _ _ _ h => h) (Or.inl ⟨rfl, fun w' hw' => ?h440⟩) hHeld ?r440
  case h440 =>
    (obtain ⟨d0, d1, d2, d3⟩ := HC.out w' hw'; go_simp)
    try with_reducible rfl
  simp only [zt, zs, zz, Act.put, zi, zy, zx]
  refine wpAnyH_take (i := 8) (v := Value.int .u8 ((s[p]'hp).toNat : Int)) rfl (by kernel_rfl) (by kernel_rfl) (by kernel_rfl) (fun _ _ _ h => h) (Or.inl ⟨rfl, fun w' hw' => ?_⟩) hHeld ?_
  · go_simp
  simp only [zt, zs, zz, Act.put, zi, zy, zx]
  refine wpAnyH_take (i := 9) (v := ?v442) rfl (by kernel_rfl) (by kernel_rfl) (by kernel_rfl) (fun _ _ _ h => h) (Or.inl ⟨rfl, fun w' hw' => ?h442⟩) hHeld ?r442
  case h442 =>
    go_simp
    try with_reducible rfl
  simp only [zt, zs, zz, Act.put, zi, zy, zx]
  refine wpAnyH_done (by kernel_rfl) ?_ _
  refine NoPanic.normal ?_
  clear hHeld
  clear HC HS0
  rw [HBB.out]
  have HN : Hid (nxt s p b es out = (0, p + 2, (putS (.mk 2 ⟨#[35, s[p + 1]'hp1]⟩ [] [] p) es out).1, (putS (.mk 2 ⟨#[35, s[p + 1]'hp1]⟩ [] [] p) es out).2)) := by
    show _ = _
    rw [nxt_tok HNE.out.1 HNE.out.2.1 HNE.out.2.2 (by rw [hash_b hp (by rw [HBB.out]; exact HBV.out) hp1, if_pos ⟨HCC.out, row0_end hp2⟩])]
  go_upto_region 16 with fail
  have HC : Hid (∀ w', Below X1.heap.size X1 w' → w'.cell? ⟨g, 0, none⟩ = some (.string s) ∧ w'.cell? ⟨g, 1, none⟩ = some (.int .i64 (p : Int)) ∧ w'.cell? ⟨g, 2, none⟩ = some (.slice ao es.length c) ∧ w'.cell? ⟨g, 3, none⟩ = some dv) := fun w' hw' => by
    have h9 : w'.heap[g]? = some (.cells #[.string s, .int .i64 (p : Int), .slice ao es.length c, dv] 114 (0, 0)) := by rw [hw'.block g HR.out.lt]; exact HR.out
    exact Rs3.cells (p := p) h9
  have HS0 : Hid (Below X1.heap.size X1 X1.drew) := (Below.refl _ _).drew
  replace HS : Hid (Stt D g s p es out w X1.drew) := HS.out.drew HR.out.lt
  replace HR : Hid (Rs3 X1.drew g s p (.slice ao es.length c) dv) := HR.out
  refine wp_region_noPanic ?_
  refine wp_region_held_drew (S := Below X1.heap.size X1) (by kernel_rfl) HS0.out (fun hHeld => ?_)
  generalize X1.drew = X2 at HS0 HS HR hHeld ⊢
  refine wpAnyH_take (i := 0) (v := ?v330) rfl (by kernel_rfl) (by kernel_rfl) (by kernel_rfl) (fun _ _ _ h => h) (Or.inl ⟨rfl, fun w' hw' => ?h330⟩) hHeld ?r330
  case h330 =>
    go_simp
    try with_reducible rfl
  simp only [zt, zs, zz, Act.put, zi, zy, zx]
  refine wpAnyH_take (i := 1) (v := ?v331) rfl (by kernel_rfl) (by kernel_rfl) (by kernel_rfl) (fun _ _ _ h => h) (Or.inl ⟨rfl, fun w' hw' => ?h331⟩) hHeld ?r331
  case h331 =>
    go_simp
    try with_reducible rfl
  simp only [zt, zs, zz, Act.put, zi, zy, zx]
  refine wpAnyH_take (i := 2) (v := ?v332) rfl (by kernel_rfl) (by kernel_rfl) (by kernel_rfl) (fun _ _ _ h => h) (Or.inl ⟨rfl, fun w' hw' => ?h332⟩) hHeld ?r332
  case h332 =>
    go_simp
    try with_reducible rfl
  simp only [zt, zs, zz, Act.put, zi, zy, zx]
  refine wpAnyH_take (i := 3) (v := ?v333) rfl (by kernel_rfl) (by kernel_rfl) (by kernel_rfl) (fun _ _ _ h => h) (Or.inl ⟨rfl, fun w' hw' => ?h333⟩) hHeld ?r333
  case h333 =>
    (obtain ⟨d0, d1, d2, d3⟩ := HC.out w' hw'; go_simp)
    try with_reducible rfl
  simp only [zt, zs, zz, Act.put, zi, zy, zx]
  refine wpAnyH_take (i := 4) (v := Value.int .i64 ((p : Int) + 1)) rfl (by kernel_rfl) (by kernel_rfl) (by kernel_rfl) (fun _ _ _ h => h) (Or.inl ⟨rfl, fun w' hw' => ?_⟩) hHeld ?_
  · go_simp; try omega
  simp only [zt, zs, zz, Act.put, zi, zy, zx]
  refine wpAnyH_take (i := 5) (v := ?v335) rfl (by kernel_rfl) (by kernel_rfl) (by kernel_rfl) (fun _ _ _ h => h) (Or.inl ⟨rfl, fun w' hw' => ?h335⟩) hHeld ?r335
  case h335 =>
    go_simp
    try with_reducible rfl
  simp only [zt, zs, zz, Act.put, zi, zy, zx]
  refine wpAnyH_take (i := 6) (v := ?v336) rfl (by kernel_rfl) (by kernel_rfl) (by kernel_rfl) (fun _ _ _ h => h) (Or.inl ⟨rfl, fun w' hw' => ?h336⟩) hHeld ?r336
  case h336 =>
    go_simp
    try with_reducible rfl
  simp only [zt, zs, zz, Act.put, zi, zy, zx]
  refine wpAnyH_take (i := 7) (v := ?v337) rfl (by kernel_rfl) (by kernel_rfl) (by kernel_rfl) (fun _ _ _ h => h) (Or.inl ⟨rfl, fun w' hw' => ?h337⟩) hHeld ?r337
  case h337 =>
    go_simp
    try with_reducible rfl
  simp only [zt, zs, zz, Act.put, zi, zy, zx]
  refine wpAnyH_take (i := 8) (v := ?v338) rfl (by kernel_rfl) (by kernel_rfl) (by kernel_rfl) (fun _ _ _ h => h) (Or.inl ⟨rfl, fun w' hw' => ?h338⟩) hHeld ?r338
  case h338 =>
    (obtain ⟨d0, d1, d2, d3⟩ := HC.out w' hw'; go_simp)
    try with_reducible rfl
  simp only [zt, zs, zz, Act.put, zi, zy, zx]
  refine wpAnyH_take (i := 9) (v := ?v339) rfl (by kernel_rfl) (by kernel_rfl) (by kernel_rfl) (fun _ _ _ h => h) (Or.inl ⟨rfl, fun w' hw' => ?h339⟩) hHeld ?r339
  case h339 =>
    go_simp
    try with_reducible rfl
  simp only [zt, zs, zz, Act.put, zi, zy, zx]
  refine wpAnyH_take (i := 10) (v := Value.bool false) rfl (by kernel_rfl) (by kernel_rfl) (by kernel_rfl) (fun _ _ _ h => h) (Or.inl ⟨rfl, fun w' hw' => ?_⟩) hHeld ?_
  · go_simp; try omega
  simp only [zt, zs, zz, Act.put, zi, zy, zx]
  refine wpAnyH_take (i := 11) (v := Value.bool false) rfl (by kernel_rfl) (by kernel_rfl) (by kernel_rfl) (fun _ _ _ h => h) (Or.inl ⟨rfl, fun w' hw' => ?_⟩) hHeld ?_
  · go_simp; try omega
  simp only [zt, zs, zz, Act.put, zi, zy, zx]
  refine wpAnyH_take (i := 12) (v := ?v342) rfl (by kernel_rfl) (by kernel_rfl) (by kernel_rfl) (fun _ _ _ h => h) (Or.inl ⟨rfl, fun w' hw' => ?h342⟩) hHeld ?r342
  case h342 =>
    go_simp
    try with_reducible rfl
  simp only [zt, zs, zz, Act.put, zi, zy, zx]
  refine wpAnyH_take (i := 13) (v := ?v343) rfl (by kernel_rfl) (by kernel_rfl) (by kernel_rfl) (fun _ _ _ h => h) (Or.inl ⟨rfl, fun w' hw' => ?h343⟩) hHeld ?r343
  case h343 =>
    go_simp
    try with_reducible rfl
  simp only [zt, zs, zz, Act.put, zi, zy, zx]
  refine wpAnyH_take (i := 14) (v := ?v344) rfl (by kernel_rfl) (by kernel_rfl) (by kernel_rfl) (fun _ _ _ h => h) (Or.inl ⟨rfl, fun w' hw' => ?h344⟩) hHeld ?r344
  case h344 =>
    go_simp
    try with_reducible rfl
  simp only [zt, zs, zz, Act.put, zi, zy, zx]
  refine wpAnyH_take (i := 15) (v := ?v345) rfl (by kernel_rfl) (by kernel_rfl) (by kernel_rfl) (fun _ _ _ h => h) (Or.inl ⟨rfl, fun w' hw' => ?h345⟩) hHeld ?r345
  case h345 =>
    (obtain ⟨d0, d1, d2, d3⟩ := HC.out w' hw'; go_simp)
    try with_reducible rfl
  simp only [zt, zs, zz, Act.put, zi, zy, zx]
  refine wpAnyH_take (i := 16) (v := ?v346) rfl (by kernel_rfl) (by kernel_rfl) (by kernel_rfl) (fun _ _ _ h => h) (Or.inl ⟨rfl, fun w' hw' => ?h346⟩) hHeld ?r346
  case h346 =>
    go_simp
    try with_reducible rfl
  simp only [zt, zs, zz, Act.put, zi, zy, zx]
  refine wpAnyH_take (i := 17) (v := ?v347) rfl (by kernel_rfl) (by kernel_rfl) (by kernel_rfl) (fun _ _ _ h => h) (Or.inl ⟨rfl, fun w' hw' => ?h347⟩) hHeld ?r347
  case h347 =>
    go_simp
    try with_reducible rfl
  simp only [zt, zs, zz, Act.put, zi, zy, zx]
  refine wpAnyH_take (i := 18) (v := ?v348) rfl (by kernel_rfl) (by kernel_rfl) (by kernel_rfl) (fun _ _ _ h => h) (Or.inl ⟨rfl, fun w' hw' => ?h348⟩) hHeld ?r348
  case h348 =>
    go_simp
    try with_reducible rfl
  simp only [zt, zs, zz, Act.put, zi, zy, zx]
  refine wpAnyH_take (i := 19) (v := ?v349) rfl (by kernel_rfl) (by kernel_rfl) (by kernel_rfl) (fun _ _ _ h => h) (Or.inl ⟨rfl, fun w' hw' => ?h349⟩) hHeld ?r349
  case h349 =>
    (obtain ⟨d0, d1, d2, d3⟩ := HC.out w' hw'; go_simp)
    try with_reducible rfl
  simp only [zt, zs, zz, Act.put, zi, zy, zx]
  refine wpAnyH_take (i := 20) (v := Value.int .i64 ((p : Int) + 1)) rfl (by kernel_rfl) (by kernel_rfl) (by kernel_rfl) (fun _ _ _ h => h) (Or.inl ⟨rfl, fun w' hw' => ?_⟩) hHeld ?_
  · go_simp; try omega
  simp only [zt, zs, zz, Act.put, zi, zy, zx]
  refine wpAnyH_take (i := 21) (v := Value.int .u8 ((s[p + 1]'hp1).toNat : Int)) rfl (by kernel_rfl) (by kernel_rfl) (by kernel_rfl) (fun _ _ _ h => h) (Or.inl ⟨rfl, fun w' hw' => ?_⟩) hHeld ?_
  · go_simp; rw [dif_pos (by omega)]; rfl
  simp only [zt, zs, zz, Act.put, zi, zy, zx]
  refine wpAnyH_take (i := 22) (v := Value.bool false) rfl (by kernel_rfl) (by kernel_rfl) (by kernel_rfl) (fun _ _ _ h => h) (Or.inl ⟨rfl, fun w' hw' => ?_⟩) hHeld ?_
  · go_simp; try omega
  simp only [zt, zs, zz, Act.put, zi, zy, zx]
  refine wpAnyH_take (i := 23) (v := Value.bool false) rfl (by kernel_rfl) (by kernel_rfl) (by kernel_rfl) (fun _ _ _ h => h) (Or.inl ⟨rfl, fun w' hw' => ?_⟩) hHeld ?_
  · go_simp; try omega
  simp only [zt, zs, zz, Act.put, zi, zy, zx]
  refine wpAnyH_take (i := 24) (v := undef) rfl (by kernel_rfl) (by kernel_rfl) (by kernel_rfl) (fun _ _ _ h => h) (Or.inr ⟨rfl, rfl⟩) hHeld ?_
  simp only [zt, zs, zz, Act.put, zi, zy, zx]
  refine wpAnyH_take (i := 25) (v := undef) rfl (by kernel_rfl) (by kernel_rfl) (by kernel_rfl) (fun _ _ _ h => h) (Or.inr ⟨rfl, rfl⟩) hHeld ?_
  simp only [zt, zs, zz, Act.put, zi, zy, zx]
  refine wpAnyH_take (i := 26) (v := undef) rfl (by kernel_rfl) (by kernel_rfl) (by kernel_rfl) (fun _ _ _ h => h) (Or.inr ⟨rfl, rfl⟩) hHeld ?_
  simp only [zt, zs, zz, Act.put, zi, zy, zx]
  refine wpAnyH_take (i := 27) (v := undef) rfl (by kernel_rfl) (by kernel_rfl) (by kernel_rfl) (fun _ _ _ h => h) (Or.inr ⟨rfl, rfl⟩) hHeld ?_
  simp only [zt, zs, zz, Act.put, zi, zy, zx]
  refine wpAnyH_take (i := 28) (v := undef) rfl (by kernel_rfl) (by kernel_rfl) (by kernel_rfl) (fun _ _ _ h => h) (Or.inr ⟨rfl, rfl⟩) hHeld ?_
  simp only [zt, zs, zz, Act.put, zi, zy, zx]
  refine wpAnyH_take (i := 29) (v := undef) rfl (by kernel_rfl) (by kernel_rfl) (by kernel_rfl) (fun _ _ _ h => h) (Or.inr ⟨rfl, rfl⟩) hHeld ?_
  simp only [zt, zs, zz, Act.put, zi, zy, zx]
  refine wpAnyH_take (i := 30) (v := undef) rfl (by kernel_rfl) (by kernel_rfl) (by kernel_rfl) (fun _ _ _ h => h) (Or.inr ⟨rfl, rfl⟩) hHeld ?_
  simp only [zt, zs, zz, Act.put, zi, zy, zx]
  refine wpAnyH_take (i := 31) (v := undef) rfl (by kernel_rfl) (by kernel_rfl) (by kernel_rfl) (fun _ _ _ h => h) (Or.inr ⟨rfl, rfl⟩) hHeld ?_
  simp only [zt, zs, zz, Act.put, zi, zy, zx]
  refine wpAnyH_take (i := 32) (v := undef) rfl (by kernel_rfl) (by kernel_rfl) (by kernel_rfl) (fun _ _ _ h => h) (Or.inr ⟨rfl, rfl⟩) hHeld ?_
  simp only [zt, zs, zz, Act.put, zi, zy, zx]
  refine wpAnyH_take (i := 33) (v := undef) rfl (by kernel_rfl) (by kernel_rfl) (by kernel_rfl) (fun _ _ _ h => h) (Or.inr ⟨rfl, rfl⟩) hHeld ?_
  simp only [zt, zs, zz, Act.put, zi, zy, zx]
  refine wpAnyH_take (i := 34) (v := undef) rfl (by kernel_rfl) (by kernel_rfl) (by kernel_rfl) (fun _ _ _ h => h) (Or.inr ⟨rfl, rfl⟩) hHeld ?_
  simp only [zt, zs, zz, Act.put, zi, zy, zx]
  refine wpAnyH_take (i := 35) (v := Value.bool false) rfl (by kernel_rfl) (by kernel_rfl) (by kernel_rfl) (fun _ _ _ h => h) (Or.inl ⟨rfl, fun w' hw' => ?_⟩) hHeld ?_
  · go_simp; try omega
  simp only [zt, zs, zz, Act.put, zi, zy, zx]
  refine wpAnyH_take (i := 36) (v := Value.bool false) rfl (by kernel_rfl) (by kernel_rfl) (by kernel_rfl) (fun _ _ _ h => h) (Or.inl ⟨rfl, fun w' hw' => ?_⟩) hHeld ?_
  · go_simp; try omega
  simp only [zt, zs, zz, Act.put, zi, zy, zx]
  refine wpAnyH_take (i := 37) (v := Value.bool false) rfl (by kernel_rfl) (by kernel_rfl) (by kernel_rfl) (fun _ _ _ h => h) (Or.inl ⟨rfl, fun w' hw' => ?_⟩) hHeld ?_
  · go_simp; try omega
  simp only [zt, zs, zz, Act.put, zi, zy, zx]
  refine wpAnyH_take (i := 38) (v := ?v368) rfl (by kernel_rfl) (by kernel_rfl) (by kernel_rfl) (fun _ _ _ h => h) (Or.inl ⟨rfl, fun w' hw' => ?h368⟩) hHeld ?r368
  case h368 =>
    go_simp
    try with_reducible rfl
  simp only [zt, zs, zz, Act.put, zi, zy, zx]
  refine wpAnyH_take (i := 39) (v := ?v369) rfl (by kernel_rfl) (by kernel_rfl) (by kernel_rfl) (fun _ _ _ h => h) (Or.inl ⟨rfl, fun w' hw' => ?h369⟩) hHeld ?r369
  case h369 =>
    go_simp
    try with_reducible rfl
  simp only [zt, zs, zz, Act.put, zi, zy, zx]
  refine wpAnyH_take (i := 40) (v := ?v370) rfl (by kernel_rfl) (by kernel_rfl) (by kernel_rfl) (fun _ _ _ h => h) (Or.inl ⟨rfl, fun w' hw' => ?h370⟩) hHeld ?r370
  case h370 =>
    go_simp
    try with_reducible rfl
  simp only [zt, zs, zz, Act.put, zi, zy, zx]
  refine wpAnyH_take (i := 41) (v := ?v371) rfl (by kernel_rfl) (by kernel_rfl) (by kernel_rfl) (fun _ _ _ h => h) (Or.inl ⟨rfl, fun w' hw' => ?h371⟩) hHeld ?r371
  case h371 =>
    (obtain ⟨d0, d1, d2, d3⟩ := HC.out w' hw'; go_simp)
    try with_reducible rfl
  simp only [zt, zs, zz, Act.put, zi, zy, zx]
  refine wpAnyH_take (i := 42) (v := Value.int .i64 ((p : Int) + 2)) rfl (by kernel_rfl) (by kernel_rfl) (by kernel_rfl) (fun _ _ _ h => h) (Or.inl ⟨rfl, fun w' hw' => ?_⟩) hHeld ?_
  · go_simp; try omega
  simp only [zt, zs, zz, Act.put, zi, zy, zx]
  refine wpAnyH_take (i := 43) (v := ?v373) rfl (by kernel_rfl) (by kernel_rfl) (by kernel_rfl) (fun _ _ _ h => h) (Or.inl ⟨rfl, fun w' hw' => ?h373⟩) hHeld ?r373
  case h373 =>
    go_simp
    try with_reducible rfl
  simp only [zt, zs, zz, Act.put, zi, zy, zx]
  refine wpAnyH_take (i := 44) (v := ?v374) rfl (by kernel_rfl) (by kernel_rfl) (by kernel_rfl) (fun _ _ _ h => h) (Or.inl ⟨rfl, fun w' hw' => ?h374⟩) hHeld ?r374
  case h374 =>
    go_simp
    try with_reducible rfl
  simp only [zt, zs, zz, Act.put, zi, zy, zx]
  refine wpAnyH_take (i := 45) (v := ?v375) rfl (by kernel_rfl) (by kernel_rfl) (by kernel_rfl) (fun _ _ _ h => h) (Or.inl ⟨rfl, fun w' hw' => ?h375⟩) hHeld ?r375
  case h375 =>
    go_simp
    try with_reducible rfl
  simp only [zt, zs, zz, Act.put, zi, zy, zx]
  refine wpAnyH_take (i := 46) (v := ?v376) rfl (by kernel_rfl) (by kernel_rfl) (by kernel_rfl) (fun _ _ _ h => h) (Or.inl ⟨rfl, fun w' hw' => ?h376⟩) hHeld ?r376
  case h376 =>
    (obtain ⟨d0, d1, d2, d3⟩ := HC.out w' hw'; go_simp)
    try with_reducible rfl
  simp only [zt, zs, zz, Act.put, zi, zy, zx]
  refine wpAnyH_take (i := 47) (v := ?v377) rfl (by kernel_rfl) (by kernel_rfl) (by kernel_rfl) (fun _ _ _ h => h) (Or.inl ⟨rfl, fun w' hw' => ?h377⟩) hHeld ?r377
  case h377 =>
    go_simp
    try with_reducible rfl
  simp only [zt, zs, zz, Act.put, zi, zy, zx]
  refine wpAnyH_take (i := 48) (v := Value.bool false) rfl (by kernel_rfl) (by kernel_rfl) (by kernel_rfl) (fun _ _ _ h => h) (Or.inl ⟨rfl, fun w' hw' => ?_⟩) hHeld ?_
  · go_simp; try omega
  simp only [zt, zs, zz, Act.put, zi, zy, zx]
  refine wpAnyH_take (i := 49) (v := Value.bool false) rfl (by kernel_rfl) (by kernel_rfl) (by kernel_rfl) (fun _ _ _ h => h) (Or.inl ⟨rfl, fun w' hw' => ?_⟩) hHeld ?_
  · go_simp; try omega
  simp only [zt, zs, zz, Act.put, zi, zy, zx]
  refine wpAnyH_take (i := 50) (v := undef) rfl (by kernel_rfl) (by kernel_rfl) (by kernel_rfl) (fun _ _ _ h => h) (Or.inr ⟨rfl, rfl⟩) hHeld ?_
  simp only [zt, zs, zz, Act.put, zi, zy, zx]
  refine wpAnyH_take (i := 51) (v := undef) rfl (by kernel_rfl) (by kernel_rfl) (by kernel_rfl) (fun _ _ _ h => h) (Or.inr ⟨rfl, rfl⟩) hHeld ?_
  simp only [zt, zs, zz, Act.put, zi, zy, zx]
  refine wpAnyH_take (i := 52) (v := undef) rfl (by kernel_rfl) (by kernel_rfl) (by kernel_rfl) (fun _ _ _ h => h) (Or.inr ⟨rfl, rfl⟩) hHeld ?_
  simp only [zt, zs, zz, Act.put, zi, zy, zx]
  refine wpAnyH_take (i := 53) (v := undef) rfl (by kernel_rfl) (by kernel_rfl) (by kernel_rfl) (fun _ _ _ h => h) (Or.inr ⟨rfl, rfl⟩) hHeld ?_
  simp only [zt, zs, zz, Act.put, zi, zy, zx]
  refine wpAnyH_take (i := 54) (v := undef) rfl (by kernel_rfl) (by kernel_rfl) (by kernel_rfl) (fun _ _ _ h => h) (Or.inr ⟨rfl, rfl⟩) hHeld ?_
  simp only [zt, zs, zz, Act.put, zi, zy, zx]
  refine wpAnyH_take (i := 55) (v := undef) rfl (by kernel_rfl) (by kernel_rfl) (by kernel_rfl) (fun _ _ _ h => h) (Or.inr ⟨rfl, rfl⟩) hHeld ?_
  simp only [zt, zs, zz, Act.put, zi, zy, zx]
  refine wpAnyH_take (i := 56) (v := undef) rfl (by kernel_rfl) (by kernel_rfl) (by kernel_rfl) (fun _ _ _ h => h) (Or.inr ⟨rfl, rfl⟩) hHeld ?_
  simp only [zt, zs, zz, Act.put, zi, zy, zx]
  refine wpAnyH_take (i := 57) (v := undef) rfl (by kernel_rfl) (by kernel_rfl) (by kernel_rfl) (fun _ _ _ h => h) (Or.inr ⟨rfl, rfl⟩) hHeld ?_
  simp only [zt, zs, zz, Act.put, zi, zy, zx]
  refine wpAnyH_take (i := 58) (v := undef) rfl (by kernel_rfl) (by kernel_rfl) (by kernel_rfl) (fun _ _ _ h => h) (Or.inr ⟨rfl, rfl⟩) hHeld ?_
  simp only [zt, zs, zz, Act.put, zi, zy, zx]
  refine wpAnyH_take (i := 59) (v := undef) rfl (by kernel_rfl) (by kernel_rfl) (by kernel_rfl) (fun _ _ _ h => h) (Or.inr ⟨rfl, rfl⟩) hHeld ?_
  simp only [zt, zs, zz, Act.put, zi, zy, zx]
  refine wpAnyH_take (i := 60) (v := undef) rfl (by kernel_rfl) (by kernel_rfl) (by kernel_rfl) (fun _ _ _ h => h) (Or.inr ⟨rfl, rfl⟩) hHeld ?_
  simp only [zt, zs, zz, Act.put, zi, zy, zx]
  refine wpAnyH_take (i := 61) (v := Value.bool false) rfl (by kernel_rfl) (by kernel_rfl) (by kernel_rfl) (fun _ _ _ h => h) (Or.inl ⟨rfl, fun w' hw' => ?_⟩) hHeld ?_
  · go_simp; try omega
  simp only [zt, zs, zz, Act.put, zi, zy, zx]
  refine wpAnyH_take (i := 62) (v := Value.bool false) rfl (by kernel_rfl) (by kernel_rfl) (by kernel_rfl) (fun _ _ _ h => h) (Or.inl ⟨rfl, fun w' hw' => ?_⟩) hHeld ?_
  · go_simp; try omega
  simp only [zt, zs, zz, Act.put, zi, zy, zx]
  refine wpAnyH_done (by kernel_rfl) ?_ _
  refine NoPanic.normal ?_
  clear hHeld
  clear HC HS0
  go_upto_region 18 with fail
  obtain ⟨pp, hpp⟩ : ∃ pp, pp = p + 2 := ⟨_, rfl⟩
  have e11 : IntKind.i64.wrap ((p : Int) + 2) = (pp : Int) := by rw [hpp, e10]; omega
  have hpps : pp ≤ s.size := by omega
  have hppp : p ≤ pp := by omega
  clear e10
  have hgx : g < X2.drew.heap.size := HR.out.lt
  have FP := Lib.hid (put3_any g s p es out (.mk 2 ⟨#[35, s[p + 1]'hp1]⟩ [] [] p) 2 ⟨#[35, s[p + 1]'hp1]⟩ none 0 0 none 0 0 p p X2.drew (HS.out.drew HR.out.lt).rd hgx (by rw [At_mk]; exact ⟨_, _, rfl, .inl ⟨rfl, rfl⟩, .inl ⟨rfl, rfl⟩⟩) HB.out (by omega))
  have HCT : Hid (s.extract p pp = ⟨#[35, s[p + 1]'hp1]⟩) := by rw [hpp]; exact cut_two hp (by rw [HBB.out]; exact HBV.out) hp1
  have HN : Hid (nxt s p b es out = (0, pp, (putS (.mk 2 ⟨#[35, s[p + 1]'hp1]⟩ [] [] p) es out).1, (putS (.mk 2 ⟨#[35, s[p + 1]'hp1]⟩ [] [] p) es out).2)) := by rw [hpp]; exact HN.out
  clear hgx hpp
  have HC : Hid (∀ w', Below X2.heap.size X2 w' → w'.cell? ⟨g, 0, none⟩ = some (.string s) ∧ w'.cell? ⟨g, 1, none⟩ = some (.int .i64 (p : Int)) ∧ w'.cell? ⟨g, 2, none⟩ = some (.slice ao es.length c) ∧ w'.cell? ⟨g, 3, none⟩ = some dv) := fun w' hw' => by
    have h9 : w'.heap[g]? = some (.cells #[.string s, .int .i64 (p : Int), .slice ao es.length c, dv] 114 (0, 0)) := by rw [hw'.block g HR.out.lt]; exact HR.out
    exact Rs3.cells (p := p) h9
  have HS0 : Hid (Below X2.heap.size X2 X2.drew) := (Below.refl _ _).drew
  replace HS : Hid (Stt D g s p es out w X2.drew) := HS.out.drew HR.out.lt
  replace HR : Hid (Rs3 X2.drew g s p (.slice ao es.length c) dv) := HR.out
  refine wp_region_noPanic ?_
  refine wp_region_late (S := Below X2.heap.size X2) (fun i => i == 20) (by kernel_rfl) HS0.out (fun hHeld => ?_)
  generalize X2.drew = X3 at HS0 HS HR FP hHeld ⊢
  refine wpAnyL_take (B := [20]) (i := 0) (v := ?v394) rfl (by kernel_rfl) (by kernel_rfl) (by kernel_rfl) (by kernel_rfl) (fun _ _ _ h => h) (Or.inl ⟨rfl, fun w' hw' => ?h394⟩) hHeld ?r394
  case h394 =>
    go_simp
    try with_reducible rfl
  simp only [zt, zs, zz, Act.put, zi, zy, zx]
  refine wpAnyL_take (B := [2, 3, 4, 14, 19, 20]) (i := 1) (v := ?v396) rfl (by kernel_rfl) (by kernel_rfl) (by kernel_rfl) (by kernel_rfl) (fun _ _ _ h => h) (Or.inl ⟨rfl, fun w' hw' => ?h396⟩) hHeld ?r396
  case h396 =>
    go_simp
    try with_reducible rfl
  simp only [zt, zs, zz, Act.put, zi, zy, zx]
  refine wpAnyL_take (B := [3, 4, 14, 19, 20]) (i := 2) (v := ?v398) rfl (by kernel_rfl) (by kernel_rfl) (by kernel_rfl) (by kernel_rfl) (fun _ _ _ h => h) (Or.inl ⟨rfl, fun w' hw' => ?h398⟩) hHeld ?r398
  case h398 =>
    go_simp
    try with_reducible rfl
  simp only [zt, zs, zz, Act.put, zi, zy, zx]
  refine wpAnyL_take (B := [4, 14, 19, 20]) (i := 3) (v := ?v400) rfl (by kernel_rfl) (by kernel_rfl) (by kernel_rfl) (by kernel_rfl) (fun _ _ _ h => h) (Or.inl ⟨rfl, fun w' hw' => ?h400⟩) hHeld ?r400
  case h400 =>
    go_simp
    try with_reducible rfl
  simp only [zt, zs, zz, Act.put, zi, zy, zx]
  refine wpAnyL_take (B := [14, 19, 20]) (i := 4) (v := ?v402) rfl (by kernel_rfl) (by kernel_rfl) (by kernel_rfl) (by kernel_rfl) (fun _ _ _ h => h) (Or.inl ⟨rfl, fun w' hw' => ?h402⟩) hHeld ?r402
  case h402 =>
    (obtain ⟨d0, d1, d2, d3⟩ := HC.out w' hw'; go_simp)
    try with_reducible rfl
  simp only [zt, zs, zz, Act.put, zi, zy, zx]
  refine wpAnyL_take (B := [6, 7, 8, 14, 19, 20]) (i := 5) (v := ?v404) rfl (by kernel_rfl) (by kernel_rfl) (by kernel_rfl) (by kernel_rfl) (fun _ _ _ h => h) (Or.inl ⟨rfl, fun w' hw' => ?h404⟩) hHeld ?r404
  case h404 =>
    go_simp
    try with_reducible rfl
  simp only [zt, zs, zz, Act.put, zi, zy, zx]
  refine wpAnyL_take (B := [7, 8, 14, 19, 20]) (i := 6) (v := ?v406) rfl (by kernel_rfl) (by kernel_rfl) (by kernel_rfl) (by kernel_rfl) (fun _ _ _ h => h) (Or.inl ⟨rfl, fun w' hw' => ?h406⟩) hHeld ?r406
  case h406 =>
    go_simp
    try with_reducible rfl
  simp only [zt, zs, zz, Act.put, zi, zy, zx]
  refine wpAnyL_take (B := [8, 14, 19, 20]) (i := 7) (v := ?v408) rfl (by kernel_rfl) (by kernel_rfl) (by kernel_rfl) (by kernel_rfl) (fun _ _ _ h => h) (Or.inl ⟨rfl, fun w' hw' => ?h408⟩) hHeld ?r408
  case h408 =>
    go_simp
    try with_reducible rfl
  simp only [zt, zs, zz, Act.put, zi, zy, zx]
  refine wpAnyL_take (B := [14, 19, 20]) (i := 8) (v := ?v410) rfl (by kernel_rfl) (by kernel_rfl) (by kernel_rfl) (by kernel_rfl) (fun _ _ _ h => h) (Or.inl ⟨rfl, fun w' hw' => ?h410⟩) hHeld ?r410
  case h410 =>
    (obtain ⟨d0, d1, d2, d3⟩ := HC.out w' hw'; go_simp)
    try with_reducible rfl
  simp only [zt, zs, zz, Act.put, zi, zy, zx]
  refine wpAnyL_take (B := [10, 11, 12, 13, 14, 19, 20]) (i := 9) (v := ?v412) rfl (by kernel_rfl) (by kernel_rfl) (by kernel_rfl) (by kernel_rfl) (fun _ _ _ h => h) (Or.inl ⟨rfl, fun w' hw' => ?h412⟩) hHeld ?r412
  case h412 =>
    go_simp
    try with_reducible rfl
  simp only [zt, zs, zz, Act.put, zi, zy, zx]
  refine wpAnyL_take (B := [11, 12, 13, 14, 19, 20]) (i := 10) (v := ?v414) rfl (by kernel_rfl) (by kernel_rfl) (by kernel_rfl) (by kernel_rfl) (fun _ _ _ h => h) (Or.inl ⟨rfl, fun w' hw' => ?h414⟩) hHeld ?r414
  case h414 =>
    go_simp
    try with_reducible rfl
  simp only [zt, zs, zz, Act.put, zi, zy, zx]
  refine wpAnyL_take (B := [12, 13, 14, 19, 20]) (i := 11) (v := ?v416) rfl (by kernel_rfl) (by kernel_rfl) (by kernel_rfl) (by kernel_rfl) (fun _ _ _ h => h) (Or.inl ⟨rfl, fun w' hw' => ?h416⟩) hHeld ?r416
  case h416 =>
    go_simp
    try with_reducible rfl
  simp only [zt, zs, zz, Act.put, zi, zy, zx]
  refine wpAnyL_take (B := [13, 14, 19, 20]) (i := 12) (v := ?v418) rfl (by kernel_rfl) (by kernel_rfl) (by kernel_rfl) (by kernel_rfl) (fun _ _ _ h => h) (Or.inl ⟨rfl, fun w' hw' => ?h418⟩) hHeld ?r418
  case h418 =>
    (obtain ⟨d0, d1, d2, d3⟩ := HC.out w' hw'; go_simp)
    try with_reducible rfl
  simp only [zt, zs, zz, Act.put, zi, zy, zx]
  refine wpAnyL_take (B := [14, 19, 20]) (i := 13) (v := Value.int .i64 (pp : Int)) rfl (by kernel_rfl) (by kernel_rfl) (by kernel_rfl) (by kernel_rfl) (fun _ _ _ h => h) (Or.inl ⟨rfl, fun w' hw' => ?_⟩) hHeld ?_
  · go_simp
  simp only [zt, zs, zz, Act.put, zi, zy, zx]
  refine wpAnyL_take (B := [19, 20]) (i := 14) (v := Value.string (s.extract p pp)) rfl (by kernel_rfl) (by kernel_rfl) (by kernel_rfl) (by kernel_rfl) (fun _ _ _ h => h) (Or.inl ⟨rfl, fun w' hw' => ?_⟩) hHeld ?_
  · go_simp; try omega
  simp only [zt, zs, zz, Act.put, zi, zy, zx]
  rw [HCT.out]
  refine wpAnyL_take (B := [16, 17, 18, 19, 20]) (i := 15) (v := ?v424) rfl (by kernel_rfl) (by kernel_rfl) (by kernel_rfl) (by kernel_rfl) (fun _ _ _ h => h) (Or.inl ⟨rfl, fun w' hw' => ?h424⟩) hHeld ?r424
  case h424 =>
    go_simp
    try with_reducible rfl
  simp only [zt, zs, zz, Act.put, zi, zy, zx]
  refine wpAnyL_take (B := [17, 18, 19, 20]) (i := 16) (v := ?v426) rfl (by kernel_rfl) (by kernel_rfl) (by kernel_rfl) (by kernel_rfl) (fun _ _ _ h => h) (Or.inl ⟨rfl, fun w' hw' => ?h426⟩) hHeld ?r426
  case h426 =>
    go_simp
    try with_reducible rfl
  simp only [zt, zs, zz, Act.put, zi, zy, zx]
  refine wpAnyL_take (B := [18, 19, 20]) (i := 17) (v := ?v428) rfl (by kernel_rfl) (by kernel_rfl) (by kernel_rfl) (by kernel_rfl) (fun _ _ _ h => h) (Or.inl ⟨rfl, fun w' hw' => ?h428⟩) hHeld ?r428
  case h428 =>
    go_simp
    try with_reducible rfl
  simp only [zt, zs, zz, Act.put, zi, zy, zx]
  refine wpAnyL_take (B := [19, 20]) (i := 18) (v := ?v430) rfl (by kernel_rfl) (by kernel_rfl) (by kernel_rfl) (by kernel_rfl) (fun _ _ _ h => h) (Or.inl ⟨rfl, fun w' hw' => ?h430⟩) hHeld ?r430
  case h430 =>
    (obtain ⟨d0, d1, d2, d3⟩ := HC.out w' hw'; go_simp)
    try with_reducible rfl
  simp only [zt, zs, zz, Act.put, zi, zy, zx]
  refine wpAnyL_take (B := [20]) (i := 19) (v := ?v432) rfl (by kernel_rfl) (by kernel_rfl) (by kernel_rfl) (by kernel_rfl) (fun _ _ _ h => h) (Or.inl ⟨rfl, fun w' hw' => ?h432⟩) hHeld ?r432
  case h432 =>
    go_simp
    try with_reducible rfl
  simp only [zt, zs, zz, Act.put, zi, zy, zx]
  refine wpAnyL_ready (rs := [20]) (by kernel_rfl) (by simp) ?_
  refine (AllL.last (S2 := fun _ => True) rfl rfl (fun K hK => ?_) AllL.nil)
  go_simp
  refine FP.out.mono ?_
  rintro e7 w7 ⟨rfl, hbl, hsz, D7, hD7⟩
  have HB7 := Lib.hid hbl
  have HZ7 := Lib.hid hsz
  have HD7 := Lib.hid hD7
  clear hbl hsz hD7
  refine hK.out _ _ trivial (fun hHeld => ?_)
  clear hK K
  try simp only [zt, zs, zz, Act.put, zi, zy, zx]
  refine wpAnyH_done (by kernel_rfl) ?_ _
  refine NoPanic.normal ?_
  clear hHeld
  clear HC HS0
  have HLO : Hid (Below g w w7) := HS.out.low.trans HB7.out
  have HSZ : Hid (w.heap.size ≤ w7.heap.size) := by have h1 := HS.out.size; have h2 := HZ7.out; show _ ≤ _; omega
  obtain ⟨ao3, c3, bo3, dd3, hf3⟩ := HD7.out.form
  have d1 := hf3.cells.2.1
  have fz := hf3.frozen 1
  have HRD := Lib.hid (HD7.out.setP pp)
  have HL1 : Hid (Below g w (w7.setCell ⟨g, 1, none⟩ (.int .i64 (pp : Int)))) := HLO.out.setCell (p := ⟨g, 1, none⟩) (Nat.le_refl _) _
  have hz : (w7.setCell ⟨g, 1, none⟩ (.int .i64 (pp : Int))).heap.size = w7.heap.size := by simp [World.setCell]
  have HZ1 := Lib.hid hz
  clear hf3 hz HD7 FP HS HR
  go_wp2_with fail
  go_ret
  have hn := HN.out
  unfold RetNx
  rw [hn]
  exact ⟨rfl, HL1.out, by rw [HZ1.out]; exact HSZ.out, fun _ => ⟨D7, by rw [HZ1.out]; exact HRD.out⟩, fun h => absurd rfl h⟩
end Go.Proofs.Ythhaegncnoekbaa
