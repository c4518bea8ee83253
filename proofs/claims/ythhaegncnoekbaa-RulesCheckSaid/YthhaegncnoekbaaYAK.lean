/- The document's reader: next: a boolean, case C2. -/
import Derived.Test.YthhaegncnoekbaaYAA
import Derived.Test.YthhaegncnoekbaaYAI
set_option linter.unusedVariables false
set_option linter.unusedSimpArgs false
namespace Go.Proofs.Ythhaegncnoekbaa
open Go.RowKit Go.BigM
set_option maxHeartbeats 16000000 in
set_option maxRecDepth 100000 in
theorem next_hash_C2 {D : Nat → Prop} (g : Nat) (s : ByteArray) (p : Nat) (es : List En) (out : List Dt) (b : UInt8) (w : World) (h : RdAt D w.heap.size w g s p es out) (hgN : g < w.heap.size) (hp : p < s.size) (hb : s[p] = b) (hs : s.size ≤ 8000) (hB : Bnd es out p) (hbv : b = 35) (hp1 : p + 1 < s.size) (h116 : (s[p + 1]'hp1).toNat = 116) (hp2 : p + 2 < s.size) (hsg : sset.contains (s[p + 2]'hp2) = false) :
    Calls Try.prog 64 #[.pointer (some ⟨g, 0, none⟩)] w (RetNx g s p b es out w) := by
  obtain ⟨ao, c, bo, dd, hf⟩ := h.form
  obtain ⟨dv, hdv⟩ : ∃ v, v = Value.slice bo out.length dd := ⟨_, rfl⟩
  rw [← hdv] at hf
  have HS := Lib.hid (Stt.start h)
  have HR := Lib.hid hf
  have HB := Lib.hid hB
  have HBB := Lib.hid hb
  have hel : es.length ≤ 60 := hB.2.2
  clear h hB hdv hf hb
  have HBV := Lib.hid hbv
  have hbn : b.toNat = 35 := by rw [hbv]; rfl
  have HNE : Hid (b ≠ 40 ∧ b ≠ 39 ∧ b ≠ 41) := by show _ ∧ _; rw [hbv]; decide
  have E40 : ((b.toNat : Int) == 40) = false := by simpa using (show ¬ (b.toNat : Int) = 40 by omega)
  have E39 : ((b.toNat : Int) == 39) = false := by simpa using (show ¬ (b.toNat : Int) = 39 by omega)
  have E41 : ((b.toNat : Int) == 41) = false := by simpa using (show ¬ (b.toNat : Int) = 41 by omega)
  have E35 : ((b.toNat : Int) == 35) = true := by simpa using (show (b.toNat : Int) = 35 by omega)
  have e9 : IntKind.i64.wrap ((p : Int) + 1) = (p : Int) + 1 := by rw [IntKind.wrap_i64]; omega
  have e10 : IntKind.i64.wrap ((p : Int) + 2) = (p : Int) + 2 := by rw [IntKind.wrap_i64]; omega
  clear hbv hbn
  have q1 : decide ((s.size : Int) ≤ (p : Int) + 1) = false := decide_eq_false (by omega)
  have HCC : Hid (s[p + 1]'hp1 = 116 ∨ s[p + 1]'hp1 = 102) := .inl (u8_is _ 116 h116)
  have F116 : (((s[p + 1]'hp1).toNat : Int) == 116) = true := by rw [beq_iff_eq]; omega
  have G116 : (((s[p + 1]'hp1).toNat : Int) != 116) = false := by simp [bne, F116]
  clear h116
  have q2 : decide ((p : Int) + 2 < (s.size : Int)) = true := decide_eq_true (by omega)
  have HSG := Lib.hid hsg
  go_enter Try.func64, Try.ntmps64
  go_upto_region 1 with fail
  have HC : Hid (∀ w', Below w.heap.size w w' → w'.cell? ⟨g, 0, none⟩ = some (.string s) ∧ w'.cell? ⟨g, 1, none⟩ = some (.int .i64 (p : Int)) ∧ w'.cell? ⟨g, 2, none⟩ = some (.slice ao es.length c) ∧ w'.cell? ⟨g, 3, none⟩ = some dv) := fun w' hw' => by
    have h9 : w'.heap[g]? = some (.cells #[.string s, .int .i64 (p : Int), .slice ao es.length c, dv] 114 (0, 0)) := by rw [hw'.block g HR.out.lt]; exact HR.out
    exact Rs3.cells (p := p) h9
  have HS0 : Hid (Below w.heap.size w w.drew) := (Below.refl _ _).drew
  replace HS : Hid (Stt D g s p es out w w.drew) := HS.out.drew HR.out.lt
  replace HR : Hid (Rs3 w.drew g s p (.slice ao es.length c) dv) := HR.out
  refine wp_region_noPanic ?_
  refine wp_region_held_drew (S := Below w.heap.size w) (by kernel_rfl) HS0.out (fun hHeld => ?_)
  generalize w.drew = X1 at HS0 HS HR hHeld ⊢
  refine qtk (i := 0) (v := ?v320) rfl rfl (fun w' hw' => ?h320) hHeld ?r320
  case h320 => go_simp; try with_reducible rfl
  simp only [zt,zs,zz,Act.put,zi,zy,zx]
  refine qtk (i := 1) (v := ?v321) rfl rfl (fun w' hw' => ?h321) hHeld ?r321
  case h321 => go_simp; try with_reducible rfl
  simp only [zt,zs,zz,Act.put,zi,zy,zx]
  refine qtk (i := 2) (v := ?v322) rfl rfl (fun w' hw' => ?h322) hHeld ?r322
  case h322 => go_simp; try with_reducible rfl
  simp only [zt,zs,zz,Act.put,zi,zy,zx]
  refine qtk (i := 3) (v := ?v323) rfl rfl (fun w' hw' => ?h323) hHeld ?r323
  case h323 => (obtain ⟨d0, d1, d2, d3⟩ := HC.out w' hw'; go_simp); try with_reducible rfl
  simp only [zt,zs,zz,Act.put,zi,zy,zx]
  refine qtk (i := 4) (v := ?v324) rfl rfl (fun w' hw' => ?h324) hHeld ?r324
  case h324 => go_simp; try with_reducible rfl
  simp only [zt,zs,zz,Act.put,zi,zy,zx]
  refine qtk (i := 5) (v := ?v325) rfl rfl (fun w' hw' => ?h325) hHeld ?r325
  case h325 => go_simp; try with_reducible rfl
  simp only [zt,zs,zz,Act.put,zi,zy,zx]
  refine qtk (i := 6) (v := ?v326) rfl rfl (fun w' hw' => ?h326) hHeld ?r326
  case h326 => go_simp; try with_reducible rfl
  simp only [zt,zs,zz,Act.put,zi,zy,zx]
  refine qtk (i := 7) (v := ?v327) rfl rfl (fun w' hw' => ?h327) hHeld ?r327
  case h327 => (obtain ⟨d0, d1, d2, d3⟩ := HC.out w' hw'; go_simp); try with_reducible rfl
  simp only [zt,zs,zz,Act.put,zi,zy,zx]
  refine qtk (i := 8) (v := Value.int .u8 ((s[p]'hp).toNat : Int)) rfl rfl (fun w' hw' => ?_) hHeld ?_
  · go_simp
  simp only [zt,zs,zz,Act.put,zi,zy,zx]
  refine qtk (i := 9) (v := ?v329) rfl rfl (fun w' hw' => ?h329) hHeld ?r329
  case h329 => go_simp; try with_reducible rfl
  simp only [zt,zs,zz,Act.put,zi,zy,zx]
  refine wpAnyH_done (by kernel_rfl) ?_ _
  refine NoPanic.normal ?_
  clear hHeld
  clear HC HS0
  rw [HBB.out]
  have HN : Hid (nxt s p b es out = (0, p + 2, (putS (.mk 2 ⟨#[35, s[p + 1]'hp1]⟩ [] [] p) es out).1, (putS (.mk 2 ⟨#[35, s[p + 1]'hp1]⟩ [] [] p) es out).2)) := by
    show _ = _
    rw [nxt_tok HNE.out.1 HNE.out.2.1 HNE.out.2.2 (by rw [hash_b hp (by rw [HBB.out]; exact HBV.out) hp1, if_pos ⟨HCC.out, row0_no hp2 HSG.out⟩])]
  go_upto_region 16 with fail
  have HC : Hid (∀ w', Below X1.heap.size X1 w' → w'.cell? ⟨g, 0, none⟩ = some (.string s) ∧ w'.cell? ⟨g, 1, none⟩ = some (.int .i64 (p : Int)) ∧ w'.cell? ⟨g, 2, none⟩ = some (.slice ao es.length c) ∧ w'.cell? ⟨g, 3, none⟩ = some dv) := fun w' hw' => by
    have h9 : w'.heap[g]? = some (.cells #[.string s, .int .i64 (p : Int), .slice ao es.length c, dv] 114 (0, 0)) := by rw [hw'.block g HR.out.lt]; exact HR.out
    exact Rs3.cells (p := p) h9
  have HS0 : Hid (Below X1.heap.size X1 X1.drew) := (Below.refl _ _).drew
  replace HS : Hid (Stt D g s p es out w X1.drew) := HS.out.drew HR.out.lt
  replace HR : Hid (Rs3 X1.drew g s p (.slice ao es.length c) dv) := HR.out
  refine wp_region_noPanic ?_
  refine wp_region_held_drew (S := Below X1.heap.size X1) (by kernel_rfl) HS0.out (fun hHeld => ?_)
  generalize X1.drew = X2 at HS0 HS HR hHeld ⊢
  refine qtk (i := 0) (v := ?v218) rfl rfl (fun w' hw' => ?h218) hHeld ?r218
  case h218 => go_simp; try with_reducible rfl
  simp only [zt,zs,zz,Act.put,zi,zy,zx]
  refine qtk (i := 1) (v := ?v219) rfl rfl (fun w' hw' => ?h219) hHeld ?r219
  case h219 => go_simp; try with_reducible rfl
  simp only [zt,zs,zz,Act.put,zi,zy,zx]
  refine qtk (i := 2) (v := ?v220) rfl rfl (fun w' hw' => ?h220) hHeld ?r220
  case h220 => go_simp; try with_reducible rfl
  simp only [zt,zs,zz,Act.put,zi,zy,zx]
  refine qtk (i := 3) (v := ?v221) rfl rfl (fun w' hw' => ?h221) hHeld ?r221
  case h221 => (obtain ⟨d0, d1, d2, d3⟩ := HC.out w' hw'; go_simp); try with_reducible rfl
  simp only [zt,zs,zz,Act.put,zi,zy,zx]
  refine qtk (i := 4) (v := Value.int .i64 ((p : Int) + 1)) rfl rfl (fun w' hw' => ?_) hHeld ?_
  · go_simp; try omega
  simp only [zt,zs,zz,Act.put,zi,zy,zx]
  refine qtk (i := 5) (v := ?v223) rfl rfl (fun w' hw' => ?h223) hHeld ?r223
  case h223 => go_simp; try with_reducible rfl
  simp only [zt,zs,zz,Act.put,zi,zy,zx]
  refine qtk (i := 6) (v := ?v224) rfl rfl (fun w' hw' => ?h224) hHeld ?r224
  case h224 => go_simp; try with_reducible rfl
  simp only [zt,zs,zz,Act.put,zi,zy,zx]
  refine qtk (i := 7) (v := ?v225) rfl rfl (fun w' hw' => ?h225) hHeld ?r225
  case h225 => go_simp; try with_reducible rfl
  simp only [zt,zs,zz,Act.put,zi,zy,zx]
  refine qtk (i := 8) (v := ?v226) rfl rfl (fun w' hw' => ?h226) hHeld ?r226
  case h226 => (obtain ⟨d0, d1, d2, d3⟩ := HC.out w' hw'; go_simp); try with_reducible rfl
  simp only [zt,zs,zz,Act.put,zi,zy,zx]
  refine qtk (i := 9) (v := ?v227) rfl rfl (fun w' hw' => ?h227) hHeld ?r227
  case h227 => go_simp; try with_reducible rfl
  simp only [zt,zs,zz,Act.put,zi,zy,zx]
  refine qtk (i := 10) (v := Value.bool false) rfl rfl (fun w' hw' => ?_) hHeld ?_
  · go_simp; try omega
  simp only [zt,zs,zz,Act.put,zi,zy,zx]
  refine qtk (i := 11) (v := Value.bool false) rfl rfl (fun w' hw' => ?_) hHeld ?_
  · go_simp; try omega
  simp only [zt,zs,zz,Act.put,zi,zy,zx]
  refine qtk (i := 12) (v := ?v230) rfl rfl (fun w' hw' => ?h230) hHeld ?r230
  case h230 => go_simp; try with_reducible rfl
  simp only [zt,zs,zz,Act.put,zi,zy,zx]
  refine qtk (i := 13) (v := ?v231) rfl rfl (fun w' hw' => ?h231) hHeld ?r231
  case h231 => go_simp; try with_reducible rfl
  simp only [zt,zs,zz,Act.put,zi,zy,zx]
  refine qtk (i := 14) (v := ?v232) rfl rfl (fun w' hw' => ?h232) hHeld ?r232
  case h232 => go_simp; try with_reducible rfl
  simp only [zt,zs,zz,Act.put,zi,zy,zx]
  refine qtk (i := 15) (v := ?v233) rfl rfl (fun w' hw' => ?h233) hHeld ?r233
  case h233 => (obtain ⟨d0, d1, d2, d3⟩ := HC.out w' hw'; go_simp); try with_reducible rfl
  simp only [zt,zs,zz,Act.put,zi,zy,zx]
  refine qtk (i := 16) (v := ?v234) rfl rfl (fun w' hw' => ?h234) hHeld ?r234
  case h234 => go_simp; try with_reducible rfl
  simp only [zt,zs,zz,Act.put,zi,zy,zx]
  refine qtk (i := 17) (v := ?v235) rfl rfl (fun w' hw' => ?h235) hHeld ?r235
  case h235 => go_simp; try with_reducible rfl
  simp only [zt,zs,zz,Act.put,zi,zy,zx]
  refine qtk (i := 18) (v := ?v236) rfl rfl (fun w' hw' => ?h236) hHeld ?r236
  case h236 => go_simp; try with_reducible rfl
  simp only [zt,zs,zz,Act.put,zi,zy,zx]
  refine qtk (i := 19) (v := ?v237) rfl rfl (fun w' hw' => ?h237) hHeld ?r237
  case h237 => (obtain ⟨d0, d1, d2, d3⟩ := HC.out w' hw'; go_simp); try with_reducible rfl
  simp only [zt,zs,zz,Act.put,zi,zy,zx]
  refine qtk (i := 20) (v := Value.int .i64 ((p : Int) + 1)) rfl rfl (fun w' hw' => ?_) hHeld ?_
  · go_simp; try omega
  simp only [zt,zs,zz,Act.put,zi,zy,zx]
  refine qtk (i := 21) (v := Value.int .u8 ((s[p + 1]'hp1).toNat : Int)) rfl rfl (fun w' hw' => ?_) hHeld ?_
  · go_simp; rw [dif_pos (by omega)]; rfl
  simp only [zt,zs,zz,Act.put,zi,zy,zx]
  refine qtk (i := 22) (v := Value.bool false) rfl rfl (fun w' hw' => ?_) hHeld ?_
  · go_simp; try omega
  simp only [zt,zs,zz,Act.put,zi,zy,zx]
  refine qtk (i := 23) (v := Value.bool false) rfl rfl (fun w' hw' => ?_) hHeld ?_
  · go_simp; try omega
  simp only [zt,zs,zz,Act.put,zi,zy,zx]
  refine qtu (i := 24) rfl rfl hHeld ?_
  simp only [zt,zs,zz,Act.put,zi,zy,zx]
  refine qtu (i := 25) rfl rfl hHeld ?_
  simp only [zt,zs,zz,Act.put,zi,zy,zx]
  refine qtu (i := 26) rfl rfl hHeld ?_
  simp only [zt,zs,zz,Act.put,zi,zy,zx]
  refine qtu (i := 27) rfl rfl hHeld ?_
  simp only [zt,zs,zz,Act.put,zi,zy,zx]
  refine qtu (i := 28) rfl rfl hHeld ?_
  simp only [zt,zs,zz,Act.put,zi,zy,zx]
  refine qtu (i := 29) rfl rfl hHeld ?_
  simp only [zt,zs,zz,Act.put,zi,zy,zx]
  refine qtu (i := 30) rfl rfl hHeld ?_
  simp only [zt,zs,zz,Act.put,zi,zy,zx]
  refine qtu (i := 31) rfl rfl hHeld ?_
  simp only [zt,zs,zz,Act.put,zi,zy,zx]
  refine qtu (i := 32) rfl rfl hHeld ?_
  simp only [zt,zs,zz,Act.put,zi,zy,zx]
  refine qtu (i := 33) rfl rfl hHeld ?_
  simp only [zt,zs,zz,Act.put,zi,zy,zx]
  refine qtu (i := 34) rfl rfl hHeld ?_
  simp only [zt,zs,zz,Act.put,zi,zy,zx]
  refine qtk (i := 35) (v := Value.bool false) rfl rfl (fun w' hw' => ?_) hHeld ?_
  · go_simp; try omega
  simp only [zt,zs,zz,Act.put,zi,zy,zx]
  refine qtk (i := 36) (v := Value.bool false) rfl rfl (fun w' hw' => ?_) hHeld ?_
  · go_simp; try omega
  simp only [zt,zs,zz,Act.put,zi,zy,zx]
  refine qtk (i := 37) (v := Value.bool false) rfl rfl (fun w' hw' => ?_) hHeld ?_
  · go_simp; try omega
  simp only [zt,zs,zz,Act.put,zi,zy,zx]
  refine qtk (i := 38) (v := ?v256) rfl rfl (fun w' hw' => ?h256) hHeld ?r256
  case h256 => go_simp; try with_reducible rfl
  simp only [zt,zs,zz,Act.put,zi,zy,zx]
  refine qtk (i := 39) (v := ?v257) rfl rfl (fun w' hw' => ?h257) hHeld ?r257
  case h257 => go_simp; try with_reducible rfl
  simp only [zt,zs,zz,Act.put,zi,zy,zx]
  refine qtk (i := 40) (v := ?v258) rfl rfl (fun w' hw' => ?h258) hHeld ?r258
  case h258 => go_simp; try with_reducible rfl
  simp only [zt,zs,zz,Act.put,zi,zy,zx]
  refine qtk (i := 41) (v := ?v259) rfl rfl (fun w' hw' => ?h259) hHeld ?r259
  case h259 => (obtain ⟨d0, d1, d2, d3⟩ := HC.out w' hw'; go_simp); try with_reducible rfl
  simp only [zt,zs,zz,Act.put,zi,zy,zx]
  refine qtk (i := 42) (v := Value.int .i64 ((p : Int) + 2)) rfl rfl (fun w' hw' => ?_) hHeld ?_
  · go_simp; try omega
  simp only [zt,zs,zz,Act.put,zi,zy,zx]
  refine qtk (i := 43) (v := ?v261) rfl rfl (fun w' hw' => ?h261) hHeld ?r261
  case h261 => go_simp; try with_reducible rfl
  simp only [zt,zs,zz,Act.put,zi,zy,zx]
  refine qtk (i := 44) (v := ?v262) rfl rfl (fun w' hw' => ?h262) hHeld ?r262
  case h262 => go_simp; try with_reducible rfl
  simp only [zt,zs,zz,Act.put,zi,zy,zx]
  refine qtk (i := 45) (v := ?v263) rfl rfl (fun w' hw' => ?h263) hHeld ?r263
  case h263 => go_simp; try with_reducible rfl
  simp only [zt,zs,zz,Act.put,zi,zy,zx]
  refine qtk (i := 46) (v := ?v264) rfl rfl (fun w' hw' => ?h264) hHeld ?r264
  case h264 => (obtain ⟨d0, d1, d2, d3⟩ := HC.out w' hw'; go_simp); try with_reducible rfl
  simp only [zt,zs,zz,Act.put,zi,zy,zx]
  refine qtk (i := 47) (v := ?v265) rfl rfl (fun w' hw' => ?h265) hHeld ?r265
  case h265 => go_simp; try with_reducible rfl
  simp only [zt,zs,zz,Act.put,zi,zy,zx]
  refine qtk (i := 48) (v := Value.bool true) rfl rfl (fun w' hw' => ?_) hHeld ?_
  · go_simp; try omega
  simp only [zt,zs,zz,Act.put,zi,zy,zx]
  refine qtk (i := 49) (v := Value.bool true) rfl rfl (fun w' hw' => ?_) hHeld ?_
  · go_simp; try omega
  simp only [zt,zs,zz,Act.put,zi,zy,zx]
  refine qtk (i := 50) (v := ?v268) rfl rfl (fun w' hw' => ?h268) hHeld ?r268
  case h268 => go_simp; try with_reducible rfl
  simp only [zt,zs,zz,Act.put,zi,zy,zx]
  refine qtk (i := 51) (v := ?v269) rfl rfl (fun w' hw' => ?h269) hHeld ?r269
  case h269 => go_simp; try with_reducible rfl
  simp only [zt,zs,zz,Act.put,zi,zy,zx]
  refine qtk (i := 52) (v := ?v270) rfl rfl (fun w' hw' => ?h270) hHeld ?r270
  case h270 => go_simp; try with_reducible rfl
  simp only [zt,zs,zz,Act.put,zi,zy,zx]
  refine qtk (i := 53) (v := ?v271) rfl rfl (fun w' hw' => ?h271) hHeld ?r271
  case h271 => (obtain ⟨d0, d1, d2, d3⟩ := HC.out w' hw'; go_simp); try with_reducible rfl
  simp only [zt,zs,zz,Act.put,zi,zy,zx]
  refine qtk (i := 54) (v := ?v272) rfl rfl (fun w' hw' => ?h272) hHeld ?r272
  case h272 => go_simp; try with_reducible rfl
  simp only [zt,zs,zz,Act.put,zi,zy,zx]
  refine qtk (i := 55) (v := ?v273) rfl rfl (fun w' hw' => ?h273) hHeld ?r273
  case h273 => go_simp; try with_reducible rfl
  simp only [zt,zs,zz,Act.put,zi,zy,zx]
  refine qtk (i := 56) (v := ?v274) rfl rfl (fun w' hw' => ?h274) hHeld ?r274
  case h274 => go_simp; try with_reducible rfl
  simp only [zt,zs,zz,Act.put,zi,zy,zx]
  refine qtk (i := 57) (v := ?v275) rfl rfl (fun w' hw' => ?h275) hHeld ?r275
  case h275 => (obtain ⟨d0, d1, d2, d3⟩ := HC.out w' hw'; go_simp); try with_reducible rfl
  simp only [zt,zs,zz,Act.put,zi,zy,zx]
  refine qtk (i := 58) (v := Value.int .i64 ((p : Int) + 2)) rfl rfl (fun w' hw' => ?_) hHeld ?_
  · go_simp; try omega
  simp only [zt,zs,zz,Act.put,zi,zy,zx]
  refine qtk (i := 59) (v := Value.int .u8 ((s[p + 2]'hp2).toNat : Int)) rfl rfl (fun w' hw' => ?_) hHeld ?_
  · go_simp; rw [dif_pos (by omega)]; have e : ((p : Int) + 2).toNat = p + 2 := (by omega); simp only [e]; rfl
  simp only [zt,zs,zz,Act.put,zi,zy,zx]
  refine wpAnyH_ready (rs := [60]) (by kernel_rfl) (by simp) ?_
  refine (AllReadyH.cons rfl (fun K hK => ?_) AllReadyH.nil)
  go_simp
  refine (sign_any _ _).mono ?_
  rintro e w' ⟨rfl, rfl⟩
  simp only [hsg]
  refine hK.out _ _ hHeld (fun hHeld => ?_)
  clear hK K
  try simp only [zt,zs,zz,Act.put,zi,zy,zx]
  refine qtk (i := 61) (v := Value.bool false) rfl rfl (fun w' hw' => ?_) hHeld ?_
  · go_simp; try omega
  simp only [zt,zs,zz,Act.put,zi,zy,zx]
  refine qtk (i := 62) (v := Value.bool false) rfl rfl (fun w' hw' => ?_) hHeld ?_
  · go_simp; try omega
  simp only [zt,zs,zz,Act.put,zi,zy,zx]
  refine wpAnyH_done (by kernel_rfl) ?_ _
  refine NoPanic.normal ?_
  clear hHeld
  clear HC HS0
  go_upto_region 18 with fail
  obtain ⟨pp, hpp⟩ : ∃ pp, pp = p + 2 := ⟨_, rfl⟩
  have e11 : IntKind.i64.wrap ((p : Int) + 2) = (pp : Int) := by rw [hpp, e10]; omega
  have hpps : pp ≤ s.size := by omega
  have hppp : p ≤ pp := by omega
  clear e10
  have hgx : g < X2.drew.heap.size := HR.out.lt
  have FP := Lib.hid (put3_any g s p es out (.mk 2 ⟨#[35, s[p + 1]'hp1]⟩ [] [] p) 2 ⟨#[35, s[p + 1]'hp1]⟩ none 0 0 none 0 0 p p X2.drew (HS.out.drew HR.out.lt).rd hgx (by rw [At_mk]; exact ⟨_, _, rfl, .inl ⟨rfl, rfl⟩, .inl ⟨rfl, rfl⟩⟩) HB.out (by omega))
  have HCT : Hid (s.extract p pp = ⟨#[35, s[p + 1]'hp1]⟩) := by rw [hpp]; exact cut_two hp (by rw [HBB.out]; exact HBV.out) hp1
  have HN : Hid (nxt s p b es out = (0, pp, (putS (.mk 2 ⟨#[35, s[p + 1]'hp1]⟩ [] [] p) es out).1, (putS (.mk 2 ⟨#[35, s[p + 1]'hp1]⟩ [] [] p) es out).2)) := by rw [hpp]; exact HN.out
  clear hgx hpp
  have HC : Hid (∀ w', Below X2.heap.size X2 w' → w'.cell? ⟨g, 0, none⟩ = some (.string s) ∧ w'.cell? ⟨g, 1, none⟩ = some (.int .i64 (p : Int)) ∧ w'.cell? ⟨g, 2, none⟩ = some (.slice ao es.length c) ∧ w'.cell? ⟨g, 3, none⟩ = some dv) := fun w' hw' => by
    have h9 : w'.heap[g]? = some (.cells #[.string s, .int .i64 (p : Int), .slice ao es.length c, dv] 114 (0, 0)) := by rw [hw'.block g HR.out.lt]; exact HR.out
    exact Rs3.cells (p := p) h9
  have HS0 : Hid (Below X2.heap.size X2 X2.drew) := (Below.refl _ _).drew
  replace HS : Hid (Stt D g s p es out w X2.drew) := HS.out.drew HR.out.lt
  replace HR : Hid (Rs3 X2.drew g s p (.slice ao es.length c) dv) := HR.out
  refine wp_region_noPanic ?_
  refine wp_region_late (S := Below X2.heap.size X2) (fun i => i == 20) (by kernel_rfl) HS0.out (fun hHeld => ?_)
  generalize X2.drew = X3 at HS0 HS HR FP hHeld ⊢
  refine wpAnyL_take (B := [20]) (i := 0) (v := ?v281) rfl (by kernel_rfl) (by kernel_rfl) (by kernel_rfl) (by kernel_rfl) (fun _ _ _ h => h) (Or.inl ⟨rfl, fun w' hw' => ?h281⟩) hHeld ?r281
  case h281 => go_simp; try with_reducible rfl
  simp only [zt,zs,zz,Act.put,zi,zy,zx]
  refine wpAnyL_take (B := [2, 3, 4, 14, 19, 20]) (i := 1) (v := ?v283) rfl (by kernel_rfl) (by kernel_rfl) (by kernel_rfl) (by kernel_rfl) (fun _ _ _ h => h) (Or.inl ⟨rfl, fun w' hw' => ?h283⟩) hHeld ?r283
  case h283 => go_simp; try with_reducible rfl
  simp only [zt,zs,zz,Act.put,zi,zy,zx]
  refine wpAnyL_take (B := [3, 4, 14, 19, 20]) (i := 2) (v := ?v285) rfl (by kernel_rfl) (by kernel_rfl) (by kernel_rfl) (by kernel_rfl) (fun _ _ _ h => h) (Or.inl ⟨rfl, fun w' hw' => ?h285⟩) hHeld ?r285
  case h285 => go_simp; try with_reducible rfl
  simp only [zt,zs,zz,Act.put,zi,zy,zx]
  refine wpAnyL_take (B := [4, 14, 19, 20]) (i := 3) (v := ?v287) rfl (by kernel_rfl) (by kernel_rfl) (by kernel_rfl) (by kernel_rfl) (fun _ _ _ h => h) (Or.inl ⟨rfl, fun w' hw' => ?h287⟩) hHeld ?r287
  case h287 => go_simp; try with_reducible rfl
  simp only [zt,zs,zz,Act.put,zi,zy,zx]
  refine wpAnyL_take (B := [14, 19, 20]) (i := 4) (v := ?v289) rfl (by kernel_rfl) (by kernel_rfl) (by kernel_rfl) (by kernel_rfl) (fun _ _ _ h => h) (Or.inl ⟨rfl, fun w' hw' => ?h289⟩) hHeld ?r289
  case h289 => (obtain ⟨d0, d1, d2, d3⟩ := HC.out w' hw'; go_simp); try with_reducible rfl
  simp only [zt,zs,zz,Act.put,zi,zy,zx]
  refine wpAnyL_take (B := [6, 7, 8, 14, 19, 20]) (i := 5) (v := ?v291) rfl (by kernel_rfl) (by kernel_rfl) (by kernel_rfl) (by kernel_rfl) (fun _ _ _ h => h) (Or.inl ⟨rfl, fun w' hw' => ?h291⟩) hHeld ?r291
  case h291 => go_simp; try with_reducible rfl
  simp only [zt,zs,zz,Act.put,zi,zy,zx]
  refine wpAnyL_take (B := [7, 8, 14, 19, 20]) (i := 6) (v := ?v293) rfl (by kernel_rfl) (by kernel_rfl) (by kernel_rfl) (by kernel_rfl) (fun _ _ _ h => h) (Or.inl ⟨rfl, fun w' hw' => ?h293⟩) hHeld ?r293
  case h293 => go_simp; try with_reducible rfl
  simp only [zt,zs,zz,Act.put,zi,zy,zx]
  refine wpAnyL_take (B := [8, 14, 19, 20]) (i := 7) (v := ?v295) rfl (by kernel_rfl) (by kernel_rfl) (by kernel_rfl) (by kernel_rfl) (fun _ _ _ h => h) (Or.inl ⟨rfl, fun w' hw' => ?h295⟩) hHeld ?r295
  case h295 => go_simp; try with_reducible rfl
  simp only [zt,zs,zz,Act.put,zi,zy,zx]
  refine wpAnyL_take (B := [14, 19, 20]) (i := 8) (v := ?v297) rfl (by kernel_rfl) (by kernel_rfl) (by kernel_rfl) (by kernel_rfl) (fun _ _ _ h => h) (Or.inl ⟨rfl, fun w' hw' => ?h297⟩) hHeld ?r297
  case h297 => (obtain ⟨d0, d1, d2, d3⟩ := HC.out w' hw'; go_simp); try with_reducible rfl
  simp only [zt,zs,zz,Act.put,zi,zy,zx]
  refine wpAnyL_take (B := [10, 11, 12, 13, 14, 19, 20]) (i := 9) (v := ?v299) rfl (by kernel_rfl) (by kernel_rfl) (by kernel_rfl) (by kernel_rfl) (fun _ _ _ h => h) (Or.inl ⟨rfl, fun w' hw' => ?h299⟩) hHeld ?r299
  case h299 => go_simp; try with_reducible rfl
  simp only [zt,zs,zz,Act.put,zi,zy,zx]
  refine wpAnyL_take (B := [11, 12, 13, 14, 19, 20]) (i := 10) (v := ?v301) rfl (by kernel_rfl) (by kernel_rfl) (by kernel_rfl) (by kernel_rfl) (fun _ _ _ h => h) (Or.inl ⟨rfl, fun w' hw' => ?h301⟩) hHeld ?r301
  case h301 => go_simp; try with_reducible rfl
  simp only [zt,zs,zz,Act.put,zi,zy,zx]
  refine wpAnyL_take (B := [12, 13, 14, 19, 20]) (i := 11) (v := ?v303) rfl (by kernel_rfl) (by kernel_rfl) (by kernel_rfl) (by kernel_rfl) (fun _ _ _ h => h) (Or.inl ⟨rfl, fun w' hw' => ?h303⟩) hHeld ?r303
  case h303 => go_simp; try with_reducible rfl
  simp only [zt,zs,zz,Act.put,zi,zy,zx]
  refine wpAnyL_take (B := [13, 14, 19, 20]) (i := 12) (v := ?v305) rfl (by kernel_rfl) (by kernel_rfl) (by kernel_rfl) (by kernel_rfl) (fun _ _ _ h => h) (Or.inl ⟨rfl, fun w' hw' => ?h305⟩) hHeld ?r305
  case h305 => (obtain ⟨d0, d1, d2, d3⟩ := HC.out w' hw'; go_simp); try with_reducible rfl
  simp only [zt,zs,zz,Act.put,zi,zy,zx]
  refine wpAnyL_take (B := [14, 19, 20]) (i := 13) (v := Value.int .i64 (pp : Int)) rfl (by kernel_rfl) (by kernel_rfl) (by kernel_rfl) (by kernel_rfl) (fun _ _ _ h => h) (Or.inl ⟨rfl, fun w' hw' => ?_⟩) hHeld ?_
  · go_simp
  simp only [zt,zs,zz,Act.put,zi,zy,zx]
  refine wpAnyL_take (B := [19, 20]) (i := 14) (v := Value.string (s.extract p pp)) rfl (by kernel_rfl) (by kernel_rfl) (by kernel_rfl) (by kernel_rfl) (fun _ _ _ h => h) (Or.inl ⟨rfl, fun w' hw' => ?_⟩) hHeld ?_
  · go_simp; try omega
  simp only [zt,zs,zz,Act.put,zi,zy,zx]
  rw [HCT.out]
  refine wpAnyL_take (B := [16, 17, 18, 19, 20]) (i := 15) (v := ?v311) rfl (by kernel_rfl) (by kernel_rfl) (by kernel_rfl) (by kernel_rfl) (fun _ _ _ h => h) (Or.inl ⟨rfl, fun w' hw' => ?h311⟩) hHeld ?r311
  case h311 => go_simp; try with_reducible rfl
  simp only [zt,zs,zz,Act.put,zi,zy,zx]
  refine wpAnyL_take (B := [17, 18, 19, 20]) (i := 16) (v := ?v313) rfl (by kernel_rfl) (by kernel_rfl) (by kernel_rfl) (by kernel_rfl) (fun _ _ _ h => h) (Or.inl ⟨rfl, fun w' hw' => ?h313⟩) hHeld ?r313
  case h313 => go_simp; try with_reducible rfl
  simp only [zt,zs,zz,Act.put,zi,zy,zx]
  refine wpAnyL_take (B := [18, 19, 20]) (i := 17) (v := ?v315) rfl (by kernel_rfl) (by kernel_rfl) (by kernel_rfl) (by kernel_rfl) (fun _ _ _ h => h) (Or.inl ⟨rfl, fun w' hw' => ?h315⟩) hHeld ?r315
  case h315 => go_simp; try with_reducible rfl
  simp only [zt,zs,zz,Act.put,zi,zy,zx]
  refine wpAnyL_take (B := [19, 20]) (i := 18) (v := ?v317) rfl (by kernel_rfl) (by kernel_rfl) (by kernel_rfl) (by kernel_rfl) (fun _ _ _ h => h) (Or.inl ⟨rfl, fun w' hw' => ?h317⟩) hHeld ?r317
  case h317 => (obtain ⟨d0, d1, d2, d3⟩ := HC.out w' hw'; go_simp); try with_reducible rfl
  simp only [zt,zs,zz,Act.put,zi,zy,zx]
  refine wpAnyL_take (B := [20]) (i := 19) (v := ?v319) rfl (by kernel_rfl) (by kernel_rfl) (by kernel_rfl) (by kernel_rfl) (fun _ _ _ h => h) (Or.inl ⟨rfl, fun w' hw' => ?h319⟩) hHeld ?r319
  case h319 => go_simp; try with_reducible rfl
  simp only [zt,zs,zz,Act.put,zi,zy,zx]
  refine wpAnyL_ready (rs := [20]) (by kernel_rfl) (by simp) ?_
  refine (AllL.last (S2 := fun _ => True) rfl rfl (fun K hK => ?_) AllL.nil)
  go_simp
  refine FP.out.mono ?_
  rintro e7 w7 ⟨rfl, hbl, hsz, D7, hD7⟩
  have HB7 := Lib.hid hbl
  have HZ7 := Lib.hid hsz
  have HD7 := Lib.hid hD7
  clear hbl hsz hD7
  refine hK.out _ _ trivial (fun hHeld => ?_)
  clear hK K
  try simp only [zt,zs,zz,Act.put,zi,zy,zx]
  refine wpAnyH_done (by kernel_rfl) ?_ _
  refine NoPanic.normal ?_
  clear hHeld
  clear HC HS0
  have HLO : Hid (Below g w w7) := HS.out.low.trans HB7.out
  have HSZ : Hid (w.heap.size ≤ w7.heap.size) := by have h1 := HS.out.size; have h2 := HZ7.out; show _ ≤ _; omega
  obtain ⟨ao3, c3, bo3, dd3, hf3⟩ := HD7.out.form
  have d1 := hf3.cells.2.1
  have fz := hf3.frozen 1
  have HRD := Lib.hid (HD7.out.setP pp)
  have HL1 : Hid (Below g w (w7.setCell ⟨g, 1, none⟩ (.int .i64 (pp : Int)))) := HLO.out.setCell (p := ⟨g, 1, none⟩) (Nat.le_refl _) _
  have hz : (w7.setCell ⟨g, 1, none⟩ (.int .i64 (pp : Int))).heap.size = w7.heap.size := by simp [World.setCell]
  have HZ1 := Lib.hid hz
  clear hf3 hz HD7 FP HS HR
  go_wp2_with fail
  go_ret
  have hn := HN.out
  unfold RetNx
  rw [hn]
  exact ⟨rfl, HL1.out, by rw [HZ1.out]; exact HSZ.out, fun _ => ⟨D7, by rw [HZ1.out]; exact HRD.out⟩, fun h => absurd rfl h⟩
end Go.Proofs.Ythhaegncnoekbaa
namespace Go.Proofs.Ythhaegncnoekbaa
open Go.RowKit Go.BigM
set_option maxHeartbeats 16000000 in
set_option maxRecDepth 100000 in
theorem next_hash_C3 {D : Nat → Prop} (g : Nat) (s : ByteArray) (p : Nat) (es : List En) (out : List Dt) (b : UInt8) (w : World) (h : RdAt D w.heap.size w g s p es out) (hgN : g < w.heap.size) (hp : p < s.size) (hb : s[p] = b) (hs : s.size ≤ 8000) (hB : Bnd es out p) (hbv : b = 35) (hp1 : p + 1 < s.size) (h116 : (s[p + 1]'hp1).toNat = 116) (hp2 : ¬ p + 2 < s.size) :
    Calls Try.prog 64 #[.pointer (some ⟨g, 0, none⟩)] w (RetNx g s p b es out w) := by
  obtain ⟨ao, c, bo, dd, hf⟩ := h.form
  obtain ⟨dv, hdv⟩ : ∃ v, v = Value.slice bo out.length dd := ⟨_, rfl⟩
  rw [← hdv] at hf
  have HS := Lib.hid (Stt.start h)
  have HR := Lib.hid hf
  have HB := Lib.hid hB
  have HBB := Lib.hid hb
  have hel : es.length ≤ 60 := hB.2.2
  clear h hB hdv hf hb
  have HBV := Lib.hid hbv
  have hbn : b.toNat = 35 := by rw [hbv]; rfl
  have HNE : Hid (b ≠ 40 ∧ b ≠ 39 ∧ b ≠ 41) := by show _ ∧ _; rw [hbv]; decide
  have E40 : ((b.toNat : Int) == 40) = false := by simpa using (show ¬ (b.toNat : Int) = 40 by omega)
  have E39 : ((b.toNat : Int) == 39) = false := by simpa using (show ¬ (b.toNat : Int) = 39 by omega)
  have E41 : ((b.toNat : Int) == 41) = false := by simpa using (show ¬ (b.toNat : Int) = 41 by omega)
  have E35 : ((b.toNat : Int) == 35) = true := by simpa using (show (b.toNat : Int) = 35 by omega)
  have e9 : IntKind.i64.wrap ((p : Int) + 1) = (p : Int) + 1 := by rw [IntKind.wrap_i64]; omega
  have e10 : IntKind.i64.wrap ((p : Int) + 2) = (p : Int) + 2 := by rw [IntKind.wrap_i64]; omega
  clear hbv hbn
  have q1 : decide ((s.size : Int) ≤ (p : Int) + 1) = false := decide_eq_false (by omega)
  have HCC : Hid (s[p + 1]'hp1 = 116 ∨ s[p + 1]'hp1 = 102) := .inl (u8_is _ 116 h116)
  have F116 : (((s[p + 1]'hp1).toNat : Int) == 116) = true := by rw [beq_iff_eq]; omega
  have G116 : (((s[p + 1]'hp1).toNat : Int) != 116) = false := by simp [bne, F116]
  clear h116
  have q2 : decide ((p : Int) + 2 < (s.size : Int)) = false := decide_eq_false (by omega)
  go_enter Try.func64, Try.ntmps64
  go_upto_region 1 with fail
  have HC : Hid (∀ w', Below w.heap.size w w' → w'.cell? ⟨g, 0, none⟩ = some (.string s) ∧ w'.cell? ⟨g, 1, none⟩ = some (.int .i64 (p : Int)) ∧ w'.cell? ⟨g, 2, none⟩ = some (.slice ao es.length c) ∧ w'.cell? ⟨g, 3, none⟩ = some dv) := fun w' hw' => by
    have h9 : w'.heap[g]? = some (.cells #[.string s, .int .i64 (p : Int), .slice ao es.length c, dv] 114 (0, 0)) := by rw [hw'.block g HR.out.lt]; exact HR.out
    exact Rs3.cells (p := p) h9
  have HS0 : Hid (Below w.heap.size w w.drew) := (Below.refl _ _).drew
  replace HS : Hid (Stt D g s p es out w w.drew) := HS.out.drew HR.out.lt
  replace HR : Hid (Rs3 w.drew g s p (.slice ao es.length c) dv) := HR.out
  refine wp_region_noPanic ?_
  refine wp_region_held_drew (S := Below w.heap.size w) (by kernel_rfl) HS0.out (fun hHeld => ?_)
  generalize w.drew = X1 at HS0 HS HR hHeld ⊢
  refine qtk (i := 0) (v := ?v433) rfl rfl (fun w' hw' => ?h433) hHeld ?r433
  case h433 => go_simp; try with_reducible rfl
  simp only [zt,zs,zz,Act.put,zi,zy,zx]
  refine qtk (i := 1) (v := ?v434) rfl rfl (fun w' hw' => ?h434) hHeld ?r434
  case h434 => go_simp; try with_reducible rfl
  simp only [zt,zs,zz,Act.put,zi,zy,zx]
  refine qtk (i := 2) (v := ?v435) rfl rfl (fun w' hw' => ?h435) hHeld ?r435
  case h435 => go_simp; try with_reducible rfl
  simp only [zt,zs,zz,Act.put,zi,zy,zx]
  refine qtk (i := 3) (v := ?v436) rfl rfl (fun w' hw' => ?h436) hHeld ?r436
  case h436 => (obtain ⟨d0, d1, d2, d3⟩ := HC.out w' hw'; go_simp); try with_reducible rfl
  simp only [zt,zs,zz,Act.put,zi,zy,zx]
  refine qtk (i := 4) (v := ?v437) rfl rfl (fun w' hw' => ?h437) hHeld ?r437
  case h437 => go_simp; try with_reducible rfl
  simp only [zt,zs,zz,Act.put,zi,zy,zx]
  refine qtk (i := 5) (v := ?v438) rfl rfl (fun w' hw' => ?h438) hHeld ?r438
  case h438 => go_simp; try with_reducible rfl
  simp only [zt,zs,zz,Act.put,zi,zy,zx]
  refine qtk (i := 6) (v := ?v439) rfl rfl (fun w' hw' => ?h439) hHeld ?r439
  case h439 => go_simp; try with_reducible rfl
  simp only [zt,zs,zz,Act.put,zi,zy,zx]
  refine qtk (i := 7) (v := ?v440) rfl rfl (fun w' hw' => ?h440) hHeld ?r440
  case h440 => (obtain ⟨d0, d1, d2, d3⟩ := HC.out w' hw'; go_simp); try with_reducible rfl
  simp only [zt,zs,zz,Act.put,zi,zy,zx]
  refine qtk (i := 8) (v := Value.int .u8 ((s[p]'hp).toNat : Int)) rfl rfl (fun w' hw' => ?_) hHeld ?_
  · go_simp
  simp only [zt,zs,zz,Act.put,zi,zy,zx]
  refine qtk (i := 9) (v := ?v442) rfl rfl (fun w' hw' => ?h442) hHeld ?r442
  case h442 => go_simp; try with_reducible rfl
  simp only [zt,zs,zz,Act.put,zi,zy,zx]
  refine wpAnyH_done (by kernel_rfl) ?_ _
  refine NoPanic.normal ?_
  clear hHeld
  clear HC HS0
  rw [HBB.out]
  have HN : Hid (nxt s p b es out = (0, p + 2, (putS (.mk 2 ⟨#[35, s[p + 1]'hp1]⟩ [] [] p) es out).1, (putS (.mk 2 ⟨#[35, s[p + 1]'hp1]⟩ [] [] p) es out).2)) := by
    show _ = _
    rw [nxt_tok HNE.out.1 HNE.out.2.1 HNE.out.2.2 (by rw [hash_b hp (by rw [HBB.out]; exact HBV.out) hp1, if_pos ⟨HCC.out, row0_end hp2⟩])]
  go_upto_region 16 with fail
  have HC : Hid (∀ w', Below X1.heap.size X1 w' → w'.cell? ⟨g, 0, none⟩ = some (.string s) ∧ w'.cell? ⟨g, 1, none⟩ = some (.int .i64 (p : Int)) ∧ w'.cell? ⟨g, 2, none⟩ = some (.slice ao es.length c) ∧ w'.cell? ⟨g, 3, none⟩ = some dv) := fun w' hw' => by
    have h9 : w'.heap[g]? = some (.cells #[.string s, .int .i64 (p : Int), .slice ao es.length c, dv] 114 (0, 0)) := by rw [hw'.block g HR.out.lt]; exact HR.out
    exact Rs3.cells (p := p) h9
  have HS0 : Hid (Below X1.heap.size X1 X1.drew) := (Below.refl _ _).drew
  replace HS : Hid (Stt D g s p es out w X1.drew) := HS.out.drew HR.out.lt
  replace HR : Hid (Rs3 X1.drew g s p (.slice ao es.length c) dv) := HR.out
  refine wp_region_noPanic ?_
  refine wp_region_held_drew (S := Below X1.heap.size X1) (by kernel_rfl) HS0.out (fun hHeld => ?_)
  generalize X1.drew = X2 at HS0 HS HR hHeld ⊢
  refine qtk (i := 0) (v := ?v330) rfl rfl (fun w' hw' => ?h330) hHeld ?r330
  case h330 => go_simp; try with_reducible rfl
  simp only [zt,zs,zz,Act.put,zi,zy,zx]
  refine qtk (i := 1) (v := ?v331) rfl rfl (fun w' hw' => ?h331) hHeld ?r331
  case h331 => go_simp; try with_reducible rfl
  simp only [zt,zs,zz,Act.put,zi,zy,zx]
  refine qtk (i := 2) (v := ?v332) rfl rfl (fun w' hw' => ?h332) hHeld ?r332
  case h332 => go_simp; try with_reducible rfl
  simp only [zt,zs,zz,Act.put,zi,zy,zx]
  refine qtk (i := 3) (v := ?v333) rfl rfl (fun w' hw' => ?h333) hHeld ?r333
  case h333 => (obtain ⟨d0, d1, d2, d3⟩ := HC.out w' hw'; go_simp); try with_reducible rfl
  simp only [zt,zs,zz,Act.put,zi,zy,zx]
  refine qtk (i := 4) (v := Value.int .i64 ((p : Int) + 1)) rfl rfl (fun w' hw' => ?_) hHeld ?_
  · go_simp; try omega
  simp only [zt,zs,zz,Act.put,zi,zy,zx]
  refine qtk (i := 5) (v := ?v335) rfl rfl (fun w' hw' => ?h335) hHeld ?r335
  case h335 => go_simp; try with_reducible rfl
  simp only [zt,zs,zz,Act.put,zi,zy,zx]
  refine qtk (i := 6) (v := ?v336) rfl rfl (fun w' hw' => ?h336) hHeld ?r336
  case h336 => go_simp; try with_reducible rfl
  simp only [zt,zs,zz,Act.put,zi,zy,zx]
  refine qtk (i := 7) (v := ?v337) rfl rfl (fun w' hw' => ?h337) hHeld ?r337
  case h337 => go_simp; try with_reducible rfl
  simp only [zt,zs,zz,Act.put,zi,zy,zx]
  refine qtk (i := 8) (v := ?v338) rfl rfl (fun w' hw' => ?h338) hHeld ?r338
  case h338 => (obtain ⟨d0, d1, d2, d3⟩ := HC.out w' hw'; go_simp); try with_reducible rfl
  simp only [zt,zs,zz,Act.put,zi,zy,zx]
  refine qtk (i := 9) (v := ?v339) rfl rfl (fun w' hw' => ?h339) hHeld ?r339
  case h339 => go_simp; try with_reducible rfl
  simp only [zt,zs,zz,Act.put,zi,zy,zx]
  refine qtk (i := 10) (v := Value.bool false) rfl rfl (fun w' hw' => ?_) hHeld ?_
  · go_simp; try omega
  simp only [zt,zs,zz,Act.put,zi,zy,zx]
  refine qtk (i := 11) (v := Value.bool false) rfl rfl (fun w' hw' => ?_) hHeld ?_
  · go_simp; try omega
  simp only [zt,zs,zz,Act.put,zi,zy,zx]
  refine qtk (i := 12) (v := ?v342) rfl rfl (fun w' hw' => ?h342) hHeld ?r342
  case h342 => go_simp; try with_reducible rfl
  simp only [zt,zs,zz,Act.put,zi,zy,zx]
  refine qtk (i := 13) (v := ?v343) rfl rfl (fun w' hw' => ?h343) hHeld ?r343
  case h343 => go_simp; try with_reducible rfl
  simp only [zt,zs,zz,Act.put,zi,zy,zx]
  refine qtk (i := 14) (v := ?v344) rfl rfl (fun w' hw' => ?h344) hHeld ?r344
  case h344 => go_simp; try with_reducible rfl
  simp only [zt,zs,zz,Act.put,zi,zy,zx]
  refine qtk (i := 15) (v := ?v345) rfl rfl (fun w' hw' => ?h345) hHeld ?r345
  case h345 => (obtain ⟨d0, d1, d2, d3⟩ := HC.out w' hw'; go_simp); try with_reducible rfl
  simp only [zt,zs,zz,Act.put,zi,zy,zx]
  refine qtk (i := 16) (v := ?v346) rfl rfl (fun w' hw' => ?h346) hHeld ?r346
  case h346 => go_simp; try with_reducible rfl
  simp only [zt,zs,zz,Act.put,zi,zy,zx]
  refine qtk (i := 17) (v := ?v347) rfl rfl (fun w' hw' => ?h347) hHeld ?r347
  case h347 => go_simp; try with_reducible rfl
  simp only [zt,zs,zz,Act.put,zi,zy,zx]
  refine qtk (i := 18) (v := ?v348) rfl rfl (fun w' hw' => ?h348) hHeld ?r348
  case h348 => go_simp; try with_reducible rfl
  simp only [zt,zs,zz,Act.put,zi,zy,zx]
  refine qtk (i := 19) (v := ?v349) rfl rfl (fun w' hw' => ?h349) hHeld ?r349
  case h349 => (obtain ⟨d0, d1, d2, d3⟩ := HC.out w' hw'; go_simp); try with_reducible rfl
  simp only [zt,zs,zz,Act.put,zi,zy,zx]
  refine qtk (i := 20) (v := Value.int .i64 ((p : Int) + 1)) rfl rfl (fun w' hw' => ?_) hHeld ?_
  · go_simp; try omega
  simp only [zt,zs,zz,Act.put,zi,zy,zx]
  refine qtk (i := 21) (v := Value.int .u8 ((s[p + 1]'hp1).toNat : Int)) rfl rfl (fun w' hw' => ?_) hHeld ?_
  · go_simp; rw [dif_pos (by omega)]; rfl
  simp only [zt,zs,zz,Act.put,zi,zy,zx]
  refine qtk (i := 22) (v := Value.bool false) rfl rfl (fun w' hw' => ?_) hHeld ?_
  · go_simp; try omega
  simp only [zt,zs,zz,Act.put,zi,zy,zx]
  refine qtk (i := 23) (v := Value.bool false) rfl rfl (fun w' hw' => ?_) hHeld ?_
  · go_simp; try omega
  simp only [zt,zs,zz,Act.put,zi,zy,zx]
  refine qtu (i := 24) rfl rfl hHeld ?_
  simp only [zt,zs,zz,Act.put,zi,zy,zx]
  refine qtu (i := 25) rfl rfl hHeld ?_
  simp only [zt,zs,zz,Act.put,zi,zy,zx]
  refine qtu (i := 26) rfl rfl hHeld ?_
  simp only [zt,zs,zz,Act.put,zi,zy,zx]
  refine qtu (i := 27) rfl rfl hHeld ?_
  simp only [zt,zs,zz,Act.put,zi,zy,zx]
  refine qtu (i := 28) rfl rfl hHeld ?_
  simp only [zt,zs,zz,Act.put,zi,zy,zx]
  refine qtu (i := 29) rfl rfl hHeld ?_
  simp only [zt,zs,zz,Act.put,zi,zy,zx]
  refine qtu (i := 30) rfl rfl hHeld ?_
  simp only [zt,zs,zz,Act.put,zi,zy,zx]
  refine qtu (i := 31) rfl rfl hHeld ?_
  simp only [zt,zs,zz,Act.put,zi,zy,zx]
  refine qtu (i := 32) rfl rfl hHeld ?_
  simp only [zt,zs,zz,Act.put,zi,zy,zx]
  refine qtu (i := 33) rfl rfl hHeld ?_
  simp only [zt,zs,zz,Act.put,zi,zy,zx]
  refine qtu (i := 34) rfl rfl hHeld ?_
  simp only [zt,zs,zz,Act.put,zi,zy,zx]
  refine qtk (i := 35) (v := Value.bool false) rfl rfl (fun w' hw' => ?_) hHeld ?_
  · go_simp; try omega
  simp only [zt,zs,zz,Act.put,zi,zy,zx]
  refine qtk (i := 36) (v := Value.bool false) rfl rfl (fun w' hw' => ?_) hHeld ?_
  · go_simp; try omega
  simp only [zt,zs,zz,Act.put,zi,zy,zx]
  refine qtk (i := 37) (v := Value.bool false) rfl rfl (fun w' hw' => ?_) hHeld ?_
  · go_simp; try omega
  simp only [zt,zs,zz,Act.put,zi,zy,zx]
  refine qtk (i := 38) (v := ?v368) rfl rfl (fun w' hw' => ?h368) hHeld ?r368
  case h368 => go_simp; try with_reducible rfl
  simp only [zt,zs,zz,Act.put,zi,zy,zx]
  refine qtk (i := 39) (v := ?v369) rfl rfl (fun w' hw' => ?h369) hHeld ?r369
  case h369 => go_simp; try with_reducible rfl
  simp only [zt,zs,zz,Act.put,zi,zy,zx]
  refine qtk (i := 40) (v := ?v370) rfl rfl (fun w' hw' => ?h370) hHeld ?r370
  case h370 => go_simp; try with_reducible rfl
  simp only [zt,zs,zz,Act.put,zi,zy,zx]
  refine qtk (i := 41) (v := ?v371) rfl rfl (fun w' hw' => ?h371) hHeld ?r371
  case h371 => (obtain ⟨d0, d1, d2, d3⟩ := HC.out w' hw'; go_simp); try with_reducible rfl
  simp only [zt,zs,zz,Act.put,zi,zy,zx]
  refine qtk (i := 42) (v := Value.int .i64 ((p : Int) + 2)) rfl rfl (fun w' hw' => ?_) hHeld ?_
  · go_simp; try omega
  simp only [zt,zs,zz,Act.put,zi,zy,zx]
  refine qtk (i := 43) (v := ?v373) rfl rfl (fun w' hw' => ?h373) hHeld ?r373
  case h373 => go_simp; try with_reducible rfl
  simp only [zt,zs,zz,Act.put,zi,zy,zx]
  refine qtk (i := 44) (v := ?v374) rfl rfl (fun w' hw' => ?h374) hHeld ?r374
  case h374 => go_simp; try with_reducible rfl
  simp only [zt,zs,zz,Act.put,zi,zy,zx]
  refine qtk (i := 45) (v := ?v375) rfl rfl (fun w' hw' => ?h375) hHeld ?r375
  case h375 => go_simp; try with_reducible rfl
  simp only [zt,zs,zz,Act.put,zi,zy,zx]
  refine qtk (i := 46) (v := ?v376) rfl rfl (fun w' hw' => ?h376) hHeld ?r376
  case h376 => (obtain ⟨d0, d1, d2, d3⟩ := HC.out w' hw'; go_simp); try with_reducible rfl
  simp only [zt,zs,zz,Act.put,zi,zy,zx]
  refine qtk (i := 47) (v := ?v377) rfl rfl (fun w' hw' => ?h377) hHeld ?r377
  case h377 => go_simp; try with_reducible rfl
  simp only [zt,zs,zz,Act.put,zi,zy,zx]
  refine qtk (i := 48) (v := Value.bool false) rfl rfl (fun w' hw' => ?_) hHeld ?_
  · go_simp; try omega
  simp only [zt,zs,zz,Act.put,zi,zy,zx]
  refine qtk (i := 49) (v := Value.bool false) rfl rfl (fun w' hw' => ?_) hHeld ?_
  · go_simp; try omega
  simp only [zt,zs,zz,Act.put,zi,zy,zx]
  refine qtu (i := 50) rfl rfl hHeld ?_
  simp only [zt,zs,zz,Act.put,zi,zy,zx]
  refine qtu (i := 51) rfl rfl hHeld ?_
  simp only [zt,zs,zz,Act.put,zi,zy,zx]
  refine qtu (i := 52) rfl rfl hHeld ?_
  simp only [zt,zs,zz,Act.put,zi,zy,zx]
  refine qtu (i := 53) rfl rfl hHeld ?_
  simp only [zt,zs,zz,Act.put,zi,zy,zx]
  refine qtu (i := 54) rfl rfl hHeld ?_
  simp only [zt,zs,zz,Act.put,zi,zy,zx]
  refine qtu (i := 55) rfl rfl hHeld ?_
  simp only [zt,zs,zz,Act.put,zi,zy,zx]
  refine qtu (i := 56) rfl rfl hHeld ?_
  simp only [zt,zs,zz,Act.put,zi,zy,zx]
  refine qtu (i := 57) rfl rfl hHeld ?_
  simp only [zt,zs,zz,Act.put,zi,zy,zx]
  refine qtu (i := 58) rfl rfl hHeld ?_
  simp only [zt,zs,zz,Act.put,zi,zy,zx]
  refine qtu (i := 59) rfl rfl hHeld ?_
  simp only [zt,zs,zz,Act.put,zi,zy,zx]
  refine qtu (i := 60) rfl rfl hHeld ?_
  simp only [zt,zs,zz,Act.put,zi,zy,zx]
  refine qtk (i := 61) (v := Value.bool false) rfl rfl (fun w' hw' => ?_) hHeld ?_
  · go_simp; try omega
  simp only [zt,zs,zz,Act.put,zi,zy,zx]
  refine qtk (i := 62) (v := Value.bool false) rfl rfl (fun w' hw' => ?_) hHeld ?_
  · go_simp; try omega
  simp only [zt,zs,zz,Act.put,zi,zy,zx]
  refine wpAnyH_done (by kernel_rfl) ?_ _
  refine NoPanic.normal ?_
  clear hHeld
  clear HC HS0
  go_upto_region 18 with fail
  obtain ⟨pp, hpp⟩ : ∃ pp, pp = p + 2 := ⟨_, rfl⟩
  have e11 : IntKind.i64.wrap ((p : Int) + 2) = (pp : Int) := by rw [hpp, e10]; omega
  have hpps : pp ≤ s.size := by omega
  have hppp : p ≤ pp := by omega
  clear e10
  have hgx : g < X2.drew.heap.size := HR.out.lt
  have FP := Lib.hid (put3_any g s p es out (.mk 2 ⟨#[35, s[p + 1]'hp1]⟩ [] [] p) 2 ⟨#[35, s[p + 1]'hp1]⟩ none 0 0 none 0 0 p p X2.drew (HS.out.drew HR.out.lt).rd hgx (by rw [At_mk]; exact ⟨_, _, rfl, .inl ⟨rfl, rfl⟩, .inl ⟨rfl, rfl⟩⟩) HB.out (by omega))
  have HCT : Hid (s.extract p pp = ⟨#[35, s[p + 1]'hp1]⟩) := by rw [hpp]; exact cut_two hp (by rw [HBB.out]; exact HBV.out) hp1
  have HN : Hid (nxt s p b es out = (0, pp, (putS (.mk 2 ⟨#[35, s[p + 1]'hp1]⟩ [] [] p) es out).1, (putS (.mk 2 ⟨#[35, s[p + 1]'hp1]⟩ [] [] p) es out).2)) := by rw [hpp]; exact HN.out
  clear hgx hpp
  have HC : Hid (∀ w', Below X2.heap.size X2 w' → w'.cell? ⟨g, 0, none⟩ = some (.string s) ∧ w'.cell? ⟨g, 1, none⟩ = some (.int .i64 (p : Int)) ∧ w'.cell? ⟨g, 2, none⟩ = some (.slice ao es.length c) ∧ w'.cell? ⟨g, 3, none⟩ = some dv) := fun w' hw' => by
    have h9 : w'.heap[g]? = some (.cells #[.string s, .int .i64 (p : Int), .slice ao es.length c, dv] 114 (0, 0)) := by rw [hw'.block g HR.out.lt]; exact HR.out
    exact Rs3.cells (p := p) h9
  have HS0 : Hid (Below X2.heap.size X2 X2.drew) := (Below.refl _ _).drew
  replace HS : Hid (Stt D g s p es out w X2.drew) := HS.out.drew HR.out.lt
  replace HR : Hid (Rs3 X2.drew g s p (.slice ao es.length c) dv) := HR.out
  refine wp_region_noPanic ?_
  refine wp_region_late (S := Below X2.heap.size X2) (fun i => i == 20) (by kernel_rfl) HS0.out (fun hHeld => ?_)
  generalize X2.drew = X3 at HS0 HS HR FP hHeld ⊢
  refine wpAnyL_take (B := [20]) (i := 0) (v := ?v394) rfl (by kernel_rfl) (by kernel_rfl) (by kernel_rfl) (by kernel_rfl) (fun _ _ _ h => h) (Or.inl ⟨rfl, fun w' hw' => ?h394⟩) hHeld ?r394
  case h394 => go_simp; try with_reducible rfl
  simp only [zt,zs,zz,Act.put,zi,zy,zx]
  refine wpAnyL_take (B := [2, 3, 4, 14, 19, 20]) (i := 1) (v := ?v396) rfl (by kernel_rfl) (by kernel_rfl) (by kernel_rfl) (by kernel_rfl) (fun _ _ _ h => h) (Or.inl ⟨rfl, fun w' hw' => ?h396⟩) hHeld ?r396
  case h396 => go_simp; try with_reducible rfl
  simp only [zt,zs,zz,Act.put,zi,zy,zx]
  refine wpAnyL_take (B := [3, 4, 14, 19, 20]) (i := 2) (v := ?v398) rfl (by kernel_rfl) (by kernel_rfl) (by kernel_rfl) (by kernel_rfl) (fun _ _ _ h => h) (Or.inl ⟨rfl, fun w' hw' => ?h398⟩) hHeld ?r398
  case h398 => go_simp; try with_reducible rfl
  simp only [zt,zs,zz,Act.put,zi,zy,zx]
  refine wpAnyL_take (B := [4, 14, 19, 20]) (i := 3) (v := ?v400) rfl (by kernel_rfl) (by kernel_rfl) (by kernel_rfl) (by kernel_rfl) (fun _ _ _ h => h) (Or.inl ⟨rfl, fun w' hw' => ?h400⟩) hHeld ?r400
  case h400 => go_simp; try with_reducible rfl
  simp only [zt,zs,zz,Act.put,zi,zy,zx]
  refine wpAnyL_take (B := [14, 19, 20]) (i := 4) (v := ?v402) rfl (by kernel_rfl) (by kernel_rfl) (by kernel_rfl) (by kernel_rfl) (fun _ _ _ h => h) (Or.inl ⟨rfl, fun w' hw' => ?h402⟩) hHeld ?r402
  case h402 => (obtain ⟨d0, d1, d2, d3⟩ := HC.out w' hw'; go_simp); try with_reducible rfl
  simp only [zt,zs,zz,Act.put,zi,zy,zx]
  refine wpAnyL_take (B := [6, 7, 8, 14, 19, 20]) (i := 5) (v := ?v404) rfl (by kernel_rfl) (by kernel_rfl) (by kernel_rfl) (by kernel_rfl) (fun _ _ _ h => h) (Or.inl ⟨rfl, fun w' hw' => ?h404⟩) hHeld ?r404
  case h404 => go_simp; try with_reducible rfl
  simp only [zt,zs,zz,Act.put,zi,zy,zx]
  refine wpAnyL_take (B := [7, 8, 14, 19, 20]) (i := 6) (v := ?v406) rfl (by kernel_rfl) (by kernel_rfl) (by kernel_rfl) (by kernel_rfl) (fun _ _ _ h => h) (Or.inl ⟨rfl, fun w' hw' => ?h406⟩) hHeld ?r406
  case h406 => go_simp; try with_reducible rfl
  simp only [zt,zs,zz,Act.put,zi,zy,zx]
  refine wpAnyL_take (B := [8, 14, 19, 20]) (i := 7) (v := ?v408) rfl (by kernel_rfl) (by kernel_rfl) (by kernel_rfl) (by kernel_rfl) (fun _ _ _ h => h) (Or.inl ⟨rfl, fun w' hw' => ?h408⟩) hHeld ?r408
  case h408 => go_simp; try with_reducible rfl
  simp only [zt,zs,zz,Act.put,zi,zy,zx]
  refine wpAnyL_take (B := [14, 19, 20]) (i := 8) (v := ?v410) rfl (by kernel_rfl) (by kernel_rfl) (by kernel_rfl) (by kernel_rfl) (fun _ _ _ h => h) (Or.inl ⟨rfl, fun w' hw' => ?h410⟩) hHeld ?r410
  case h410 => (obtain ⟨d0, d1, d2, d3⟩ := HC.out w' hw'; go_simp); try with_reducible rfl
  simp only [zt,zs,zz,Act.put,zi,zy,zx]
  refine wpAnyL_take (B := [10, 11, 12, 13, 14, 19, 20]) (i := 9) (v := ?v412) rfl (by kernel_rfl) (by kernel_rfl) (by kernel_rfl) (by kernel_rfl) (fun _ _ _ h => h) (Or.inl ⟨rfl, fun w' hw' => ?h412⟩) hHeld ?r412
  case h412 => go_simp; try with_reducible rfl
  simp only [zt,zs,zz,Act.put,zi,zy,zx]
  refine wpAnyL_take (B := [11, 12, 13, 14, 19, 20]) (i := 10) (v := ?v414) rfl (by kernel_rfl) (by kernel_rfl) (by kernel_rfl) (by kernel_rfl) (fun _ _ _ h => h) (Or.inl ⟨rfl, fun w' hw' => ?h414⟩) hHeld ?r414
  case h414 => go_simp; try with_reducible rfl
  simp only [zt,zs,zz,Act.put,zi,zy,zx]
  refine wpAnyL_take (B := [12, 13, 14, 19, 20]) (i := 11) (v := ?v416) rfl (by kernel_rfl) (by kernel_rfl) (by kernel_rfl) (by kernel_rfl) (fun _ _ _ h => h) (Or.inl ⟨rfl, fun w' hw' => ?h416⟩) hHeld ?r416
  case h416 => go_simp; try with_reducible rfl
  simp only [zt,zs,zz,Act.put,zi,zy,zx]
  refine wpAnyL_take (B := [13, 14, 19, 20]) (i := 12) (v := ?v418) rfl (by kernel_rfl) (by kernel_rfl) (by kernel_rfl) (by kernel_rfl) (fun _ _ _ h => h) (Or.inl ⟨rfl, fun w' hw' => ?h418⟩) hHeld ?r418
  case h418 => (obtain ⟨d0, d1, d2, d3⟩ := HC.out w' hw'; go_simp); try with_reducible rfl
  simp only [zt,zs,zz,Act.put,zi,zy,zx]
  refine wpAnyL_take (B := [14, 19, 20]) (i := 13) (v := Value.int .i64 (pp : Int)) rfl (by kernel_rfl) (by kernel_rfl) (by kernel_rfl) (by kernel_rfl) (fun _ _ _ h => h) (Or.inl ⟨rfl, fun w' hw' => ?_⟩) hHeld ?_
  · go_simp
  simp only [zt,zs,zz,Act.put,zi,zy,zx]
  refine wpAnyL_take (B := [19, 20]) (i := 14) (v := Value.string (s.extract p pp)) rfl (by kernel_rfl) (by kernel_rfl) (by kernel_rfl) (by kernel_rfl) (fun _ _ _ h => h) (Or.inl ⟨rfl, fun w' hw' => ?_⟩) hHeld ?_
  · go_simp; try omega
  simp only [zt,zs,zz,Act.put,zi,zy,zx]
  rw [HCT.out]
  refine wpAnyL_take (B := [16, 17, 18, 19, 20]) (i := 15) (v := ?v424) rfl (by kernel_rfl) (by kernel_rfl) (by kernel_rfl) (by kernel_rfl) (fun _ _ _ h => h) (Or.inl ⟨rfl, fun w' hw' => ?h424⟩) hHeld ?r424
  case h424 => go_simp; try with_reducible rfl
  simp only [zt,zs,zz,Act.put,zi,zy,zx]
  refine wpAnyL_take (B := [17, 18, 19, 20]) (i := 16) (v := ?v426) rfl (by kernel_rfl) (by kernel_rfl) (by kernel_rfl) (by kernel_rfl) (fun _ _ _ h => h) (Or.inl ⟨rfl, fun w' hw' => ?h426⟩) hHeld ?r426
  case h426 => go_simp; try with_reducible rfl
  simp only [zt,zs,zz,Act.put,zi,zy,zx]
  refine wpAnyL_take (B := [18, 19, 20]) (i := 17) (v := ?v428) rfl (by kernel_rfl) (by kernel_rfl) (by kernel_rfl) (by kernel_rfl) (fun _ _ _ h => h) (Or.inl ⟨rfl, fun w' hw' => ?h428⟩) hHeld ?r428
  case h428 => go_simp; try with_reducible rfl
  simp only [zt,zs,zz,Act.put,zi,zy,zx]
  refine wpAnyL_take (B := [19, 20]) (i := 18) (v := ?v430) rfl (by kernel_rfl) (by kernel_rfl) (by kernel_rfl) (by kernel_rfl) (fun _ _ _ h => h) (Or.inl ⟨rfl, fun w' hw' => ?h430⟩) hHeld ?r430
  case h430 => (obtain ⟨d0, d1, d2, d3⟩ := HC.out w' hw'; go_simp); try with_reducible rfl
  simp only [zt,zs,zz,Act.put,zi,zy,zx]
  refine wpAnyL_take (B := [20]) (i := 19) (v := ?v432) rfl (by kernel_rfl) (by kernel_rfl) (by kernel_rfl) (by kernel_rfl) (fun _ _ _ h => h) (Or.inl ⟨rfl, fun w' hw' => ?h432⟩) hHeld ?r432
  case h432 => go_simp; try with_reducible rfl
  simp only [zt,zs,zz,Act.put,zi,zy,zx]
  refine wpAnyL_ready (rs := [20]) (by kernel_rfl) (by simp) ?_
  refine (AllL.last (S2 := fun _ => True) rfl rfl (fun K hK => ?_) AllL.nil)
  go_simp
  refine FP.out.mono ?_
  rintro e7 w7 ⟨rfl, hbl, hsz, D7, hD7⟩
  have HB7 := Lib.hid hbl
  have HZ7 := Lib.hid hsz
  have HD7 := Lib.hid hD7
  clear hbl hsz hD7
  refine hK.out _ _ trivial (fun hHeld => ?_)
  clear hK K
  try simp only [zt,zs,zz,Act.put,zi,zy,zx]
  refine wpAnyH_done (by kernel_rfl) ?_ _
  refine NoPanic.normal ?_
  clear hHeld
  clear HC HS0
  have HLO : Hid (Below g w w7) := HS.out.low.trans HB7.out
  have HSZ : Hid (w.heap.size ≤ w7.heap.size) := by have h1 := HS.out.size; have h2 := HZ7.out; show _ ≤ _; omega
  obtain ⟨ao3, c3, bo3, dd3, hf3⟩ := HD7.out.form
  have d1 := hf3.cells.2.1
  have fz := hf3.frozen 1
  have HRD := Lib.hid (HD7.out.setP pp)
  have HL1 : Hid (Below g w (w7.setCell ⟨g, 1, none⟩ (.int .i64 (pp : Int)))) := HLO.out.setCell (p := ⟨g, 1, none⟩) (Nat.le_refl _) _
  have hz : (w7.setCell ⟨g, 1, none⟩ (.int .i64 (pp : Int))).heap.size = w7.heap.size := by simp [World.setCell]
  have HZ1 := Lib.hid hz
  clear hf3 hz HD7 FP HS HR
  go_wp2_with fail
  go_ret
  have hn := HN.out
  unfold RetNx
  rw [hn]
  exact ⟨rfl, HL1.out, by rw [HZ1.out]; exact HSZ.out, fun _ => ⟨D7, by rw [HZ1.out]; exact HRD.out⟩, fun h => absurd rfl h⟩
end Go.Proofs.Ythhaegncnoekbaa
