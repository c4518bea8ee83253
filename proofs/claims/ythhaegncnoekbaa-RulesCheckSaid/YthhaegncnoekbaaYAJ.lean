/- The document's reader: next: a boolean, case A. -/
import Derived.Test.YthhaegncnoekbaaYAA
import Derived.Test.YthhaegncnoekbaaYAI
set_option linter.unusedVariables false
set_option linter.unusedSimpArgs false
namespace Go.Proofs.Ythhaegncnoekbaa
open Go.RowKit Go.BigM
set_option maxHeartbeats 16000000 in
set_option maxRecDepth 100000 in
theorem next_hash_A {D : Nat → Prop} (g : Nat) (s : ByteArray) (p : Nat) (es : List En) (out : List Dt) (b : UInt8) (w : World) (h : RdAt D w.heap.size w g s p es out) (hgN : g < w.heap.size) (hp : p < s.size) (hb : s[p] = b) (hs : s.size ≤ 8000) (hB : Bnd es out p) (hbv : b = 35) (hp1 : ¬ p + 1 < s.size) :
    Calls Try.prog 64 #[.pointer (some ⟨g, 0, none⟩)] w (RetNx g s p b es out w) := by
  obtain ⟨ao, c, bo, dd, hf⟩ := h.form
  obtain ⟨dv, hdv⟩ : ∃ v, v = Value.slice bo out.length dd := ⟨_, rfl⟩
  rw [← hdv] at hf
  have HS := Lib.hid (Stt.start h)
  have HR := Lib.hid hf
  have HB := Lib.hid hB
  have HBB := Lib.hid hb
  have hel : es.length ≤ 60 := hB.2.2
  clear h hB hdv hf hb
  have HBV := Lib.hid hbv
  have hbn : b.toNat = 35 := by rw [hbv]; rfl
  have HNE : Hid (b ≠ 40 ∧ b ≠ 39 ∧ b ≠ 41) := by show _ ∧ _; rw [hbv]; decide
  have E40 : ((b.toNat : Int) == 40) = false := by simpa using (show ¬ (b.toNat : Int) = 40 by omega)
  have E39 : ((b.toNat : Int) == 39) = false := by simpa using (show ¬ (b.toNat : Int) = 39 by omega)
  have E41 : ((b.toNat : Int) == 41) = false := by simpa using (show ¬ (b.toNat : Int) = 41 by omega)
  have E35 : ((b.toNat : Int) == 35) = true := by simpa using (show (b.toNat : Int) = 35 by omega)
  have e9 : IntKind.i64.wrap ((p : Int) + 1) = (p : Int) + 1 := by rw [IntKind.wrap_i64]; omega
  have e10 : IntKind.i64.wrap ((p : Int) + 2) = (p : Int) + 2 := by rw [IntKind.wrap_i64]; omega
  clear hbv hbn
  have q1 : decide ((s.size : Int) ≤ (p : Int) + 1) = true := decide_eq_true (by omega)
  go_enter Try.func64, Try.ntmps64
  go_upto_region 1 with fail
  have HC : Hid (∀ w', Below w.heap.size w w' → w'.cell? ⟨g, 0, none⟩ = some (.string s) ∧ w'.cell? ⟨g, 1, none⟩ = some (.int .i64 (p : Int)) ∧ w'.cell? ⟨g, 2, none⟩ = some (.slice ao es.length c) ∧ w'.cell? ⟨g, 3, none⟩ = some dv) := fun w' hw' => by
    have h9 : w'.heap[g]? = some (.cells #[.string s, .int .i64 (p : Int), .slice ao es.length c, dv] 114 (0, 0)) := by rw [hw'.block g HR.out.lt]; exact HR.out
    exact Rs3.cells (p := p) h9
  have HS0 : Hid (Below w.heap.size w w.drew) := (Below.refl _ _).drew
  replace HS : Hid (Stt D g s p es out w w.drew) := HS.out.drew HR.out.lt
  replace HR : Hid (Rs3 w.drew g s p (.slice ao es.length c) dv) := HR.out
  refine wp_region_noPanic ?_
  refine wp_region_held_drew (S := Below w.heap.size w) (by kernel_rfl) HS0.out (fun hHeld => ?_)
  generalize w.drew = X1 at HS0 HS HR hHeld ⊢
  refine qtk (i := 0) (v := ?v63) rfl rfl (fun w' hw' => ?h63) hHeld ?r63
  case h63 => go_simp; try with_reducible rfl
  simp only [zt,zs,zz,Act.put,zi,zy,zx]
  refine qtk (i := 1) (v := ?v64) rfl rfl (fun w' hw' => ?h64) hHeld ?r64
  case h64 => go_simp; try with_reducible rfl
  simp only [zt,zs,zz,Act.put,zi,zy,zx]
  refine qtk (i := 2) (v := ?v65) rfl rfl (fun w' hw' => ?h65) hHeld ?r65
  case h65 => go_simp; try with_reducible rfl
  simp only [zt,zs,zz,Act.put,zi,zy,zx]
  refine qtk (i := 3) (v := ?v66) rfl rfl (fun w' hw' => ?h66) hHeld ?r66
  case h66 => (obtain ⟨d0, d1, d2, d3⟩ := HC.out w' hw'; go_simp); try with_reducible rfl
  simp only [zt,zs,zz,Act.put,zi,zy,zx]
  refine qtk (i := 4) (v := ?v67) rfl rfl (fun w' hw' => ?h67) hHeld ?r67
  case h67 => go_simp; try with_reducible rfl
  simp only [zt,zs,zz,Act.put,zi,zy,zx]
  refine qtk (i := 5) (v := ?v68) rfl rfl (fun w' hw' => ?h68) hHeld ?r68
  case h68 => go_simp; try with_reducible rfl
  simp only [zt,zs,zz,Act.put,zi,zy,zx]
  refine qtk (i := 6) (v := ?v69) rfl rfl (fun w' hw' => ?h69) hHeld ?r69
  case h69 => go_simp; try with_reducible rfl
  simp only [zt,zs,zz,Act.put,zi,zy,zx]
  refine qtk (i := 7) (v := ?v70) rfl rfl (fun w' hw' => ?h70) hHeld ?r70
  case h70 => (obtain ⟨d0, d1, d2, d3⟩ := HC.out w' hw'; go_simp); try with_reducible rfl
  simp only [zt,zs,zz,Act.put,zi,zy,zx]
  refine qtk (i := 8) (v := Value.int .u8 ((s[p]'hp).toNat : Int)) rfl rfl (fun w' hw' => ?_) hHeld ?_
  · go_simp
  simp only [zt,zs,zz,Act.put,zi,zy,zx]
  refine qtk (i := 9) (v := ?v72) rfl rfl (fun w' hw' => ?h72) hHeld ?r72
  case h72 => go_simp; try with_reducible rfl
  simp only [zt,zs,zz,Act.put,zi,zy,zx]
  refine wpAnyH_done (by kernel_rfl) ?_ _
  refine NoPanic.normal ?_
  clear hHeld
  clear HC HS0
  rw [HBB.out]
  have HN : Hid (nxt s p b es out = (3, p, es, out)) := by
    show _ = _
    rw [nxt_tok HNE.out.1 HNE.out.2.1 HNE.out.2.2 (hash_a hp (by rw [HBB.out]; exact HBV.out) hp1)]
  go_upto_region 16 with fail
  have HC : Hid (∀ w', Below X1.heap.size X1 w' → w'.cell? ⟨g, 0, none⟩ = some (.string s) ∧ w'.cell? ⟨g, 1, none⟩ = some (.int .i64 (p : Int)) ∧ w'.cell? ⟨g, 2, none⟩ = some (.slice ao es.length c) ∧ w'.cell? ⟨g, 3, none⟩ = some dv) := fun w' hw' => by
    have h9 : w'.heap[g]? = some (.cells #[.string s, .int .i64 (p : Int), .slice ao es.length c, dv] 114 (0, 0)) := by rw [hw'.block g HR.out.lt]; exact HR.out
    exact Rs3.cells (p := p) h9
  have HS0 : Hid (Below X1.heap.size X1 X1.drew) := (Below.refl _ _).drew
  replace HS : Hid (Stt D g s p es out w X1.drew) := HS.out.drew HR.out.lt
  replace HR : Hid (Rs3 X1.drew g s p (.slice ao es.length c) dv) := HR.out
  refine wp_region_noPanic ?_
  refine wp_region_held_drew (S := Below X1.heap.size X1) (by kernel_rfl) HS0.out (fun hHeld => ?_)
  generalize X1.drew = X2 at HS0 HS HR hHeld ⊢
  refine qtk (i := 0) (v := ?v0) rfl rfl (fun w' hw' => ?h0) hHeld ?r0
  case h0 => go_simp; try with_reducible rfl
  simp only [zt,zs,zz,Act.put,zi,zy,zx]
  refine qtk (i := 1) (v := ?v1) rfl rfl (fun w' hw' => ?h1) hHeld ?r1
  case h1 => go_simp; try with_reducible rfl
  simp only [zt,zs,zz,Act.put,zi,zy,zx]
  refine qtk (i := 2) (v := ?v2) rfl rfl (fun w' hw' => ?h2) hHeld ?r2
  case h2 => go_simp; try with_reducible rfl
  simp only [zt,zs,zz,Act.put,zi,zy,zx]
  refine qtk (i := 3) (v := ?v3) rfl rfl (fun w' hw' => ?h3) hHeld ?r3
  case h3 => (obtain ⟨d0, d1, d2, d3⟩ := HC.out w' hw'; go_simp); try with_reducible rfl
  simp only [zt,zs,zz,Act.put,zi,zy,zx]
  refine qtk (i := 4) (v := Value.int .i64 ((p : Int) + 1)) rfl rfl (fun w' hw' => ?_) hHeld ?_
  · go_simp; try omega
  simp only [zt,zs,zz,Act.put,zi,zy,zx]
  refine qtk (i := 5) (v := ?v5) rfl rfl (fun w' hw' => ?h5) hHeld ?r5
  case h5 => go_simp; try with_reducible rfl
  simp only [zt,zs,zz,Act.put,zi,zy,zx]
  refine qtk (i := 6) (v := ?v6) rfl rfl (fun w' hw' => ?h6) hHeld ?r6
  case h6 => go_simp; try with_reducible rfl
  simp only [zt,zs,zz,Act.put,zi,zy,zx]
  refine qtk (i := 7) (v := ?v7) rfl rfl (fun w' hw' => ?h7) hHeld ?r7
  case h7 => go_simp; try with_reducible rfl
  simp only [zt,zs,zz,Act.put,zi,zy,zx]
  refine qtk (i := 8) (v := ?v8) rfl rfl (fun w' hw' => ?h8) hHeld ?r8
  case h8 => (obtain ⟨d0, d1, d2, d3⟩ := HC.out w' hw'; go_simp); try with_reducible rfl
  simp only [zt,zs,zz,Act.put,zi,zy,zx]
  refine qtk (i := 9) (v := ?v9) rfl rfl (fun w' hw' => ?h9) hHeld ?r9
  case h9 => go_simp; try with_reducible rfl
  simp only [zt,zs,zz,Act.put,zi,zy,zx]
  refine qtk (i := 10) (v := Value.bool true) rfl rfl (fun w' hw' => ?_) hHeld ?_
  · go_simp; try omega
  simp only [zt,zs,zz,Act.put,zi,zy,zx]
  refine qtk (i := 11) (v := Value.bool true) rfl rfl (fun w' hw' => ?_) hHeld ?_
  · go_simp; try omega
  simp only [zt,zs,zz,Act.put,zi,zy,zx]
  refine qtu (i := 12) rfl rfl hHeld ?_
  simp only [zt,zs,zz,Act.put,zi,zy,zx]
  refine qtu (i := 13) rfl rfl hHeld ?_
  simp only [zt,zs,zz,Act.put,zi,zy,zx]
  refine qtu (i := 14) rfl rfl hHeld ?_
  simp only [zt,zs,zz,Act.put,zi,zy,zx]
  refine qtu (i := 15) rfl rfl hHeld ?_
  simp only [zt,zs,zz,Act.put,zi,zy,zx]
  refine qtu (i := 16) rfl rfl hHeld ?_
  simp only [zt,zs,zz,Act.put,zi,zy,zx]
  refine qtu (i := 17) rfl rfl hHeld ?_
  simp only [zt,zs,zz,Act.put,zi,zy,zx]
  refine qtu (i := 18) rfl rfl hHeld ?_
  simp only [zt,zs,zz,Act.put,zi,zy,zx]
  refine qtu (i := 19) rfl rfl hHeld ?_
  simp only [zt,zs,zz,Act.put,zi,zy,zx]
  refine qtu (i := 20) rfl rfl hHeld ?_
  simp only [zt,zs,zz,Act.put,zi,zy,zx]
  refine qtu (i := 21) rfl rfl hHeld ?_
  simp only [zt,zs,zz,Act.put,zi,zy,zx]
  refine qtu (i := 22) rfl rfl hHeld ?_
  simp only [zt,zs,zz,Act.put,zi,zy,zx]
  refine qtu (i := 23) rfl rfl hHeld ?_
  simp only [zt,zs,zz,Act.put,zi,zy,zx]
  refine qtu (i := 24) rfl rfl hHeld ?_
  simp only [zt,zs,zz,Act.put,zi,zy,zx]
  refine qtu (i := 25) rfl rfl hHeld ?_
  simp only [zt,zs,zz,Act.put,zi,zy,zx]
  refine qtu (i := 26) rfl rfl hHeld ?_
  simp only [zt,zs,zz,Act.put,zi,zy,zx]
  refine qtu (i := 27) rfl rfl hHeld ?_
  simp only [zt,zs,zz,Act.put,zi,zy,zx]
  refine qtu (i := 28) rfl rfl hHeld ?_
  simp only [zt,zs,zz,Act.put,zi,zy,zx]
  refine qtu (i := 29) rfl rfl hHeld ?_
  simp only [zt,zs,zz,Act.put,zi,zy,zx]
  refine qtu (i := 30) rfl rfl hHeld ?_
  simp only [zt,zs,zz,Act.put,zi,zy,zx]
  refine qtu (i := 31) rfl rfl hHeld ?_
  simp only [zt,zs,zz,Act.put,zi,zy,zx]
  refine qtu (i := 32) rfl rfl hHeld ?_
  simp only [zt,zs,zz,Act.put,zi,zy,zx]
  refine qtu (i := 33) rfl rfl hHeld ?_
  simp only [zt,zs,zz,Act.put,zi,zy,zx]
  refine qtu (i := 34) rfl rfl hHeld ?_
  simp only [zt,zs,zz,Act.put,zi,zy,zx]
  refine qtu (i := 35) rfl rfl hHeld ?_
  simp only [zt,zs,zz,Act.put,zi,zy,zx]
  refine qtk (i := 36) (v := Value.bool true) rfl rfl (fun w' hw' => ?_) hHeld ?_
  · go_simp; try omega
  simp only [zt,zs,zz,Act.put,zi,zy,zx]
  refine qtk (i := 37) (v := Value.bool true) rfl rfl (fun w' hw' => ?_) hHeld ?_
  · go_simp; try omega
  simp only [zt,zs,zz,Act.put,zi,zy,zx]
  refine qtu (i := 38) rfl rfl hHeld ?_
  simp only [zt,zs,zz,Act.put,zi,zy,zx]
  refine qtu (i := 39) rfl rfl hHeld ?_
  simp only [zt,zs,zz,Act.put,zi,zy,zx]
  refine qtu (i := 40) rfl rfl hHeld ?_
  simp only [zt,zs,zz,Act.put,zi,zy,zx]
  refine qtu (i := 41) rfl rfl hHeld ?_
  simp only [zt,zs,zz,Act.put,zi,zy,zx]
  refine qtu (i := 42) rfl rfl hHeld ?_
  simp only [zt,zs,zz,Act.put,zi,zy,zx]
  refine qtu (i := 43) rfl rfl hHeld ?_
  simp only [zt,zs,zz,Act.put,zi,zy,zx]
  refine qtu (i := 44) rfl rfl hHeld ?_
  simp only [zt,zs,zz,Act.put,zi,zy,zx]
  refine qtu (i := 45) rfl rfl hHeld ?_
  simp only [zt,zs,zz,Act.put,zi,zy,zx]
  refine qtu (i := 46) rfl rfl hHeld ?_
  simp only [zt,zs,zz,Act.put,zi,zy,zx]
  refine qtu (i := 47) rfl rfl hHeld ?_
  simp only [zt,zs,zz,Act.put,zi,zy,zx]
  refine qtu (i := 48) rfl rfl hHeld ?_
  simp only [zt,zs,zz,Act.put,zi,zy,zx]
  refine qtu (i := 49) rfl rfl hHeld ?_
  simp only [zt,zs,zz,Act.put,zi,zy,zx]
  refine qtu (i := 50) rfl rfl hHeld ?_
  simp only [zt,zs,zz,Act.put,zi,zy,zx]
  refine qtu (i := 51) rfl rfl hHeld ?_
  simp only [zt,zs,zz,Act.put,zi,zy,zx]
  refine qtu (i := 52) rfl rfl hHeld ?_
  simp only [zt,zs,zz,Act.put,zi,zy,zx]
  refine qtu (i := 53) rfl rfl hHeld ?_
  simp only [zt,zs,zz,Act.put,zi,zy,zx]
  refine qtu (i := 54) rfl rfl hHeld ?_
  simp only [zt,zs,zz,Act.put,zi,zy,zx]
  refine qtu (i := 55) rfl rfl hHeld ?_
  simp only [zt,zs,zz,Act.put,zi,zy,zx]
  refine qtu (i := 56) rfl rfl hHeld ?_
  simp only [zt,zs,zz,Act.put,zi,zy,zx]
  refine qtu (i := 57) rfl rfl hHeld ?_
  simp only [zt,zs,zz,Act.put,zi,zy,zx]
  refine qtu (i := 58) rfl rfl hHeld ?_
  simp only [zt,zs,zz,Act.put,zi,zy,zx]
  refine qtu (i := 59) rfl rfl hHeld ?_
  simp only [zt,zs,zz,Act.put,zi,zy,zx]
  refine qtu (i := 60) rfl rfl hHeld ?_
  simp only [zt,zs,zz,Act.put,zi,zy,zx]
  refine qtu (i := 61) rfl rfl hHeld ?_
  simp only [zt,zs,zz,Act.put,zi,zy,zx]
  refine qtk (i := 62) (v := Value.bool true) rfl rfl (fun w' hw' => ?_) hHeld ?_
  · go_simp; try omega
  simp only [zt,zs,zz,Act.put,zi,zy,zx]
  refine wpAnyH_done (by kernel_rfl) ?_ _
  refine NoPanic.normal ?_
  clear hHeld
  clear HC HS0
  go_wp2_with fail
  go_ret
  have hn := HN.out
  unfold RetNx
  rw [hn]
  exact ⟨rfl, HS.out.low, HS.out.size, fun h => absurd h (by simp), fun _ => ⟨_, _, HR.out⟩⟩
end Go.Proofs.Ythhaegncnoekbaa
namespace Go.Proofs.Ythhaegncnoekbaa
open Go.RowKit Go.BigM
set_option maxHeartbeats 16000000 in
set_option maxRecDepth 100000 in
theorem next_hash_B {D : Nat → Prop} (g : Nat) (s : ByteArray) (p : Nat) (es : List En) (out : List Dt) (b : UInt8) (w : World) (h : RdAt D w.heap.size w g s p es out) (hgN : g < w.heap.size) (hp : p < s.size) (hb : s[p] = b) (hs : s.size ≤ 8000) (hB : Bnd es out p) (hbv : b = 35) (hp1 : p + 1 < s.size) (h116 : ¬ (s[p + 1]'hp1).toNat = 116) (h102 : ¬ (s[p + 1]'hp1).toNat = 102) :
    Calls Try.prog 64 #[.pointer (some ⟨g, 0, none⟩)] w (RetNx g s p b es out w) := by
  obtain ⟨ao, c, bo, dd, hf⟩ := h.form
  obtain ⟨dv, hdv⟩ : ∃ v, v = Value.slice bo out.length dd := ⟨_, rfl⟩
  rw [← hdv] at hf
  have HS := Lib.hid (Stt.start h)
  have HR := Lib.hid hf
  have HB := Lib.hid hB
  have HBB := Lib.hid hb
  have hel : es.length ≤ 60 := hB.2.2
  clear h hB hdv hf hb
  have HBV := Lib.hid hbv
  have hbn : b.toNat = 35 := by rw [hbv]; rfl
  have HNE : Hid (b ≠ 40 ∧ b ≠ 39 ∧ b ≠ 41) := by show _ ∧ _; rw [hbv]; decide
  have E40 : ((b.toNat : Int) == 40) = false := by simpa using (show ¬ (b.toNat : Int) = 40 by omega)
  have E39 : ((b.toNat : Int) == 39) = false := by simpa using (show ¬ (b.toNat : Int) = 39 by omega)
  have E41 : ((b.toNat : Int) == 41) = false := by simpa using (show ¬ (b.toNat : Int) = 41 by omega)
  have E35 : ((b.toNat : Int) == 35) = true := by simpa using (show (b.toNat : Int) = 35 by omega)
  have e9 : IntKind.i64.wrap ((p : Int) + 1) = (p : Int) + 1 := by rw [IntKind.wrap_i64]; omega
  have e10 : IntKind.i64.wrap ((p : Int) + 2) = (p : Int) + 2 := by rw [IntKind.wrap_i64]; omega
  clear hbv hbn
  have q1 : decide ((s.size : Int) ≤ (p : Int) + 1) = false := decide_eq_false (by omega)
  have HCC : Hid (¬ (s[p + 1]'hp1 = 116 ∨ s[p + 1]'hp1 = 102)) := by
    rintro (h | h)
    · exact h116 (by rw [h]; rfl)
    · exact h102 (by rw [h]; rfl)
  have F116 : (((s[p + 1]'hp1).toNat : Int) == 116) = false := by rw [beq_eq_false_iff_ne]; omega
  have G116 : (((s[p + 1]'hp1).toNat : Int) != 116) = true := by simp [bne, F116]
  have F102 : (((s[p + 1]'hp1).toNat : Int) == 102) = false := by rw [beq_eq_false_iff_ne]; omega
  have G102 : (((s[p + 1]'hp1).toNat : Int) != 102) = true := by simp [bne, F102]
  clear h116 h102
  go_enter Try.func64, Try.ntmps64
  go_upto_region 1 with fail
  have HC : Hid (∀ w', Below w.heap.size w w' → w'.cell? ⟨g, 0, none⟩ = some (.string s) ∧ w'.cell? ⟨g, 1, none⟩ = some (.int .i64 (p : Int)) ∧ w'.cell? ⟨g, 2, none⟩ = some (.slice ao es.length c) ∧ w'.cell? ⟨g, 3, none⟩ = some dv) := fun w' hw' => by
    have h9 : w'.heap[g]? = some (.cells #[.string s, .int .i64 (p : Int), .slice ao es.length c, dv] 114 (0, 0)) := by rw [hw'.block g HR.out.lt]; exact HR.out
    exact Rs3.cells (p := p) h9
  have HS0 : Hid (Below w.heap.size w w.drew) := (Below.refl _ _).drew
  replace HS : Hid (Stt D g s p es out w w.drew) := HS.out.drew HR.out.lt
  replace HR : Hid (Rs3 w.drew g s p (.slice ao es.length c) dv) := HR.out
  refine wp_region_noPanic ?_
  refine wp_region_held_drew (S := Below w.heap.size w) (by kernel_rfl) HS0.out (fun hHeld => ?_)
  generalize w.drew = X1 at HS0 HS HR hHeld ⊢
  refine qtk (i := 0) (v := ?v136) rfl rfl (fun w' hw' => ?h136) hHeld ?r136
  case h136 => go_simp; try with_reducible rfl
  simp only [zt,zs,zz,Act.put,zi,zy,zx]
  refine qtk (i := 1) (v := ?v137) rfl rfl (fun w' hw' => ?h137) hHeld ?r137
  case h137 => go_simp; try with_reducible rfl
  simp only [zt,zs,zz,Act.put,zi,zy,zx]
  refine qtk (i := 2) (v := ?v138) rfl rfl (fun w' hw' => ?h138) hHeld ?r138
  case h138 => go_simp; try with_reducible rfl
  simp only [zt,zs,zz,Act.put,zi,zy,zx]
  refine qtk (i := 3) (v := ?v139) rfl rfl (fun w' hw' => ?h139) hHeld ?r139
  case h139 => (obtain ⟨d0, d1, d2, d3⟩ := HC.out w' hw'; go_simp); try with_reducible rfl
  simp only [zt,zs,zz,Act.put,zi,zy,zx]
  refine qtk (i := 4) (v := ?v140) rfl rfl (fun w' hw' => ?h140) hHeld ?r140
  case h140 => go_simp; try with_reducible rfl
  simp only [zt,zs,zz,Act.put,zi,zy,zx]
  refine qtk (i := 5) (v := ?v141) rfl rfl (fun w' hw' => ?h141) hHeld ?r141
  case h141 => go_simp; try with_reducible rfl
  simp only [zt,zs,zz,Act.put,zi,zy,zx]
  refine qtk (i := 6) (v := ?v142) rfl rfl (fun w' hw' => ?h142) hHeld ?r142
  case h142 => go_simp; try with_reducible rfl
  simp only [zt,zs,zz,Act.put,zi,zy,zx]
  refine qtk (i := 7) (v := ?v143) rfl rfl (fun w' hw' => ?h143) hHeld ?r143
  case h143 => (obtain ⟨d0, d1, d2, d3⟩ := HC.out w' hw'; go_simp); try with_reducible rfl
  simp only [zt,zs,zz,Act.put,zi,zy,zx]
  refine qtk (i := 8) (v := Value.int .u8 ((s[p]'hp).toNat : Int)) rfl rfl (fun w' hw' => ?_) hHeld ?_
  · go_simp
  simp only [zt,zs,zz,Act.put,zi,zy,zx]
  refine qtk (i := 9) (v := ?v145) rfl rfl (fun w' hw' => ?h145) hHeld ?r145
  case h145 => go_simp; try with_reducible rfl
  simp only [zt,zs,zz,Act.put,zi,zy,zx]
  refine wpAnyH_done (by kernel_rfl) ?_ _
  refine NoPanic.normal ?_
  clear hHeld
  clear HC HS0
  rw [HBB.out]
  have HN : Hid (nxt s p b es out = (3, p, es, out)) := by
    show _ = _
    rw [nxt_tok HNE.out.1 HNE.out.2.1 HNE.out.2.2 (by rw [hash_b hp (by rw [HBB.out]; exact HBV.out) hp1, if_neg (fun h => HCC.out h.1)])]
  go_upto_region 16 with fail
  have HC : Hid (∀ w', Below X1.heap.size X1 w' → w'.cell? ⟨g, 0, none⟩ = some (.string s) ∧ w'.cell? ⟨g, 1, none⟩ = some (.int .i64 (p : Int)) ∧ w'.cell? ⟨g, 2, none⟩ = some (.slice ao es.length c) ∧ w'.cell? ⟨g, 3, none⟩ = some dv) := fun w' hw' => by
    have h9 : w'.heap[g]? = some (.cells #[.string s, .int .i64 (p : Int), .slice ao es.length c, dv] 114 (0, 0)) := by rw [hw'.block g HR.out.lt]; exact HR.out
    exact Rs3.cells (p := p) h9
  have HS0 : Hid (Below X1.heap.size X1 X1.drew) := (Below.refl _ _).drew
  replace HS : Hid (Stt D g s p es out w X1.drew) := HS.out.drew HR.out.lt
  replace HR : Hid (Rs3 X1.drew g s p (.slice ao es.length c) dv) := HR.out
  refine wp_region_noPanic ?_
  refine wp_region_held_drew (S := Below X1.heap.size X1) (by kernel_rfl) HS0.out (fun hHeld => ?_)
  generalize X1.drew = X2 at HS0 HS HR hHeld ⊢
  refine qtk (i := 0) (v := ?v73) rfl rfl (fun w' hw' => ?h73) hHeld ?r73
  case h73 => go_simp; try with_reducible rfl
  simp only [zt,zs,zz,Act.put,zi,zy,zx]
  refine qtk (i := 1) (v := ?v74) rfl rfl (fun w' hw' => ?h74) hHeld ?r74
  case h74 => go_simp; try with_reducible rfl
  simp only [zt,zs,zz,Act.put,zi,zy,zx]
  refine qtk (i := 2) (v := ?v75) rfl rfl (fun w' hw' => ?h75) hHeld ?r75
  case h75 => go_simp; try with_reducible rfl
  simp only [zt,zs,zz,Act.put,zi,zy,zx]
  refine qtk (i := 3) (v := ?v76) rfl rfl (fun w' hw' => ?h76) hHeld ?r76
  case h76 => (obtain ⟨d0, d1, d2, d3⟩ := HC.out w' hw'; go_simp); try with_reducible rfl
  simp only [zt,zs,zz,Act.put,zi,zy,zx]
  refine qtk (i := 4) (v := Value.int .i64 ((p : Int) + 1)) rfl rfl (fun w' hw' => ?_) hHeld ?_
  · go_simp; try omega
  simp only [zt,zs,zz,Act.put,zi,zy,zx]
  refine qtk (i := 5) (v := ?v78) rfl rfl (fun w' hw' => ?h78) hHeld ?r78
  case h78 => go_simp; try with_reducible rfl
  simp only [zt,zs,zz,Act.put,zi,zy,zx]
  refine qtk (i := 6) (v := ?v79) rfl rfl (fun w' hw' => ?h79) hHeld ?r79
  case h79 => go_simp; try with_reducible rfl
  simp only [zt,zs,zz,Act.put,zi,zy,zx]
  refine qtk (i := 7) (v := ?v80) rfl rfl (fun w' hw' => ?h80) hHeld ?r80
  case h80 => go_simp; try with_reducible rfl
  simp only [zt,zs,zz,Act.put,zi,zy,zx]
  refine qtk (i := 8) (v := ?v81) rfl rfl (fun w' hw' => ?h81) hHeld ?r81
  case h81 => (obtain ⟨d0, d1, d2, d3⟩ := HC.out w' hw'; go_simp); try with_reducible rfl
  simp only [zt,zs,zz,Act.put,zi,zy,zx]
  refine qtk (i := 9) (v := ?v82) rfl rfl (fun w' hw' => ?h82) hHeld ?r82
  case h82 => go_simp; try with_reducible rfl
  simp only [zt,zs,zz,Act.put,zi,zy,zx]
  refine qtk (i := 10) (v := Value.bool false) rfl rfl (fun w' hw' => ?_) hHeld ?_
  · go_simp; try omega
  simp only [zt,zs,zz,Act.put,zi,zy,zx]
  refine qtk (i := 11) (v := Value.bool false) rfl rfl (fun w' hw' => ?_) hHeld ?_
  · go_simp; try omega
  simp only [zt,zs,zz,Act.put,zi,zy,zx]
  refine qtk (i := 12) (v := ?v85) rfl rfl (fun w' hw' => ?h85) hHeld ?r85
  case h85 => go_simp; try with_reducible rfl
  simp only [zt,zs,zz,Act.put,zi,zy,zx]
  refine qtk (i := 13) (v := ?v86) rfl rfl (fun w' hw' => ?h86) hHeld ?r86
  case h86 => go_simp; try with_reducible rfl
  simp only [zt,zs,zz,Act.put,zi,zy,zx]
  refine qtk (i := 14) (v := ?v87) rfl rfl (fun w' hw' => ?h87) hHeld ?r87
  case h87 => go_simp; try with_reducible rfl
  simp only [zt,zs,zz,Act.put,zi,zy,zx]
  refine qtk (i := 15) (v := ?v88) rfl rfl (fun w' hw' => ?h88) hHeld ?r88
  case h88 => (obtain ⟨d0, d1, d2, d3⟩ := HC.out w' hw'; go_simp); try with_reducible rfl
  simp only [zt,zs,zz,Act.put,zi,zy,zx]
  refine qtk (i := 16) (v := ?v89) rfl rfl (fun w' hw' => ?h89) hHeld ?r89
  case h89 => go_simp; try with_reducible rfl
  simp only [zt,zs,zz,Act.put,zi,zy,zx]
  refine qtk (i := 17) (v := ?v90) rfl rfl (fun w' hw' => ?h90) hHeld ?r90
  case h90 => go_simp; try with_reducible rfl
  simp only [zt,zs,zz,Act.put,zi,zy,zx]
  refine qtk (i := 18) (v := ?v91) rfl rfl (fun w' hw' => ?h91) hHeld ?r91
  case h91 => go_simp; try with_reducible rfl
  simp only [zt,zs,zz,Act.put,zi,zy,zx]
  refine qtk (i := 19) (v := ?v92) rfl rfl (fun w' hw' => ?h92) hHeld ?r92
  case h92 => (obtain ⟨d0, d1, d2, d3⟩ := HC.out w' hw'; go_simp); try with_reducible rfl
  simp only [zt,zs,zz,Act.put,zi,zy,zx]
  refine qtk (i := 20) (v := Value.int .i64 ((p : Int) + 1)) rfl rfl (fun w' hw' => ?_) hHeld ?_
  · go_simp; try omega
  simp only [zt,zs,zz,Act.put,zi,zy,zx]
  refine qtk (i := 21) (v := Value.int .u8 ((s[p + 1]'hp1).toNat : Int)) rfl rfl (fun w' hw' => ?_) hHeld ?_
  · go_simp; rw [dif_pos (by omega)]; rfl
  simp only [zt,zs,zz,Act.put,zi,zy,zx]
  refine qtk (i := 22) (v := Value.bool true) rfl rfl (fun w' hw' => ?_) hHeld ?_
  · go_simp; try omega
  simp only [zt,zs,zz,Act.put,zi,zy,zx]
  refine qtk (i := 23) (v := Value.bool true) rfl rfl (fun w' hw' => ?_) hHeld ?_
  · go_simp; try omega
  simp only [zt,zs,zz,Act.put,zi,zy,zx]
  refine qtk (i := 24) (v := ?v97) rfl rfl (fun w' hw' => ?h97) hHeld ?r97
  case h97 => go_simp; try with_reducible rfl
  simp only [zt,zs,zz,Act.put,zi,zy,zx]
  refine qtk (i := 25) (v := ?v98) rfl rfl (fun w' hw' => ?h98) hHeld ?r98
  case h98 => go_simp; try with_reducible rfl
  simp only [zt,zs,zz,Act.put,zi,zy,zx]
  refine qtk (i := 26) (v := ?v99) rfl rfl (fun w' hw' => ?h99) hHeld ?r99
  case h99 => go_simp; try with_reducible rfl
  simp only [zt,zs,zz,Act.put,zi,zy,zx]
  refine qtk (i := 27) (v := ?v100) rfl rfl (fun w' hw' => ?h100) hHeld ?r100
  case h100 => (obtain ⟨d0, d1, d2, d3⟩ := HC.out w' hw'; go_simp); try with_reducible rfl
  simp only [zt,zs,zz,Act.put,zi,zy,zx]
  refine qtk (i := 28) (v := ?v101) rfl rfl (fun w' hw' => ?h101) hHeld ?r101
  case h101 => go_simp; try with_reducible rfl
  simp only [zt,zs,zz,Act.put,zi,zy,zx]
  refine qtk (i := 29) (v := ?v102) rfl rfl (fun w' hw' => ?h102) hHeld ?r102
  case h102 => go_simp; try with_reducible rfl
  simp only [zt,zs,zz,Act.put,zi,zy,zx]
  refine qtk (i := 30) (v := ?v103) rfl rfl (fun w' hw' => ?h103) hHeld ?r103
  case h103 => go_simp; try with_reducible rfl
  simp only [zt,zs,zz,Act.put,zi,zy,zx]
  refine qtk (i := 31) (v := ?v104) rfl rfl (fun w' hw' => ?h104) hHeld ?r104
  case h104 => (obtain ⟨d0, d1, d2, d3⟩ := HC.out w' hw'; go_simp); try with_reducible rfl
  simp only [zt,zs,zz,Act.put,zi,zy,zx]
  refine qtk (i := 32) (v := Value.int .i64 ((p : Int) + 1)) rfl rfl (fun w' hw' => ?_) hHeld ?_
  · go_simp; try omega
  simp only [zt,zs,zz,Act.put,zi,zy,zx]
  refine qtk (i := 33) (v := Value.int .u8 ((s[p + 1]'hp1).toNat : Int)) rfl rfl (fun w' hw' => ?_) hHeld ?_
  · go_simp; rw [dif_pos (by omega)]; rfl
  simp only [zt,zs,zz,Act.put,zi,zy,zx]
  refine qtk (i := 34) (v := Value.bool true) rfl rfl (fun w' hw' => ?_) hHeld ?_
  · go_simp; try omega
  simp only [zt,zs,zz,Act.put,zi,zy,zx]
  refine qtk (i := 35) (v := Value.bool true) rfl rfl (fun w' hw' => ?_) hHeld ?_
  · go_simp; try omega
  simp only [zt,zs,zz,Act.put,zi,zy,zx]
  refine qtk (i := 36) (v := Value.bool true) rfl rfl (fun w' hw' => ?_) hHeld ?_
  · go_simp; try omega
  simp only [zt,zs,zz,Act.put,zi,zy,zx]
  refine qtk (i := 37) (v := Value.bool true) rfl rfl (fun w' hw' => ?_) hHeld ?_
  · go_simp; try omega
  simp only [zt,zs,zz,Act.put,zi,zy,zx]
  refine qtu (i := 38) rfl rfl hHeld ?_
  simp only [zt,zs,zz,Act.put,zi,zy,zx]
  refine qtu (i := 39) rfl rfl hHeld ?_
  simp only [zt,zs,zz,Act.put,zi,zy,zx]
  refine qtu (i := 40) rfl rfl hHeld ?_
  simp only [zt,zs,zz,Act.put,zi,zy,zx]
  refine qtu (i := 41) rfl rfl hHeld ?_
  simp only [zt,zs,zz,Act.put,zi,zy,zx]
  refine qtu (i := 42) rfl rfl hHeld ?_
  simp only [zt,zs,zz,Act.put,zi,zy,zx]
  refine qtu (i := 43) rfl rfl hHeld ?_
  simp only [zt,zs,zz,Act.put,zi,zy,zx]
  refine qtu (i := 44) rfl rfl hHeld ?_
  simp only [zt,zs,zz,Act.put,zi,zy,zx]
  refine qtu (i := 45) rfl rfl hHeld ?_
  simp only [zt,zs,zz,Act.put,zi,zy,zx]
  refine qtu (i := 46) rfl rfl hHeld ?_
  simp only [zt,zs,zz,Act.put,zi,zy,zx]
  refine qtu (i := 47) rfl rfl hHeld ?_
  simp only [zt,zs,zz,Act.put,zi,zy,zx]
  refine qtu (i := 48) rfl rfl hHeld ?_
  simp only [zt,zs,zz,Act.put,zi,zy,zx]
  refine qtu (i := 49) rfl rfl hHeld ?_
  simp only [zt,zs,zz,Act.put,zi,zy,zx]
  refine qtu (i := 50) rfl rfl hHeld ?_
  simp only [zt,zs,zz,Act.put,zi,zy,zx]
  refine qtu (i := 51) rfl rfl hHeld ?_
  simp only [zt,zs,zz,Act.put,zi,zy,zx]
  refine qtu (i := 52) rfl rfl hHeld ?_
  simp only [zt,zs,zz,Act.put,zi,zy,zx]
  refine qtu (i := 53) rfl rfl hHeld ?_
  simp only [zt,zs,zz,Act.put,zi,zy,zx]
  refine qtu (i := 54) rfl rfl hHeld ?_
  simp only [zt,zs,zz,Act.put,zi,zy,zx]
  refine qtu (i := 55) rfl rfl hHeld ?_
  simp only [zt,zs,zz,Act.put,zi,zy,zx]
  refine qtu (i := 56) rfl rfl hHeld ?_
  simp only [zt,zs,zz,Act.put,zi,zy,zx]
  refine qtu (i := 57) rfl rfl hHeld ?_
  simp only [zt,zs,zz,Act.put,zi,zy,zx]
  refine qtu (i := 58) rfl rfl hHeld ?_
  simp only [zt,zs,zz,Act.put,zi,zy,zx]
  refine qtu (i := 59) rfl rfl hHeld ?_
  simp only [zt,zs,zz,Act.put,zi,zy,zx]
  refine qtu (i := 60) rfl rfl hHeld ?_
  simp only [zt,zs,zz,Act.put,zi,zy,zx]
  refine qtu (i := 61) rfl rfl hHeld ?_
  simp only [zt,zs,zz,Act.put,zi,zy,zx]
  refine qtk (i := 62) (v := Value.bool true) rfl rfl (fun w' hw' => ?_) hHeld ?_
  · go_simp; try omega
  simp only [zt,zs,zz,Act.put,zi,zy,zx]
  refine wpAnyH_done (by kernel_rfl) ?_ _
  refine NoPanic.normal ?_
  clear hHeld
  clear HC HS0
  go_wp2_with fail
  go_ret
  have hn := HN.out
  unfold RetNx
  rw [hn]
  exact ⟨rfl, HS.out.low, HS.out.size, fun h => absurd h (by simp), fun _ => ⟨_, _, HR.out⟩⟩
end Go.Proofs.Ythhaegncnoekbaa
namespace Go.Proofs.Ythhaegncnoekbaa
open Go.RowKit Go.BigM
set_option maxHeartbeats 16000000 in
set_option maxRecDepth 100000 in
theorem next_hash_C1 {D : Nat → Prop} (g : Nat) (s : ByteArray) (p : Nat) (es : List En) (out : List Dt) (b : UInt8) (w : World) (h : RdAt D w.heap.size w g s p es out) (hgN : g < w.heap.size) (hp : p < s.size) (hb : s[p] = b) (hs : s.size ≤ 8000) (hB : Bnd es out p) (hbv : b = 35) (hp1 : p + 1 < s.size) (h116 : (s[p + 1]'hp1).toNat = 116) (hp2 : p + 2 < s.size) (hsg : sset.contains (s[p + 2]'hp2) = true) :
    Calls Try.prog 64 #[.pointer (some ⟨g, 0, none⟩)] w (RetNx g s p b es out w) := by
  obtain ⟨ao, c, bo, dd, hf⟩ := h.form
  obtain ⟨dv, hdv⟩ : ∃ v, v = Value.slice bo out.length dd := ⟨_, rfl⟩
  rw [← hdv] at hf
  have HS := Lib.hid (Stt.start h)
  have HR := Lib.hid hf
  have HB := Lib.hid hB
  have HBB := Lib.hid hb
  have hel : es.length ≤ 60 := hB.2.2
  clear h hB hdv hf hb
  have HBV := Lib.hid hbv
  have hbn : b.toNat = 35 := by rw [hbv]; rfl
  have HNE : Hid (b ≠ 40 ∧ b ≠ 39 ∧ b ≠ 41) := by show _ ∧ _; rw [hbv]; decide
  have E40 : ((b.toNat : Int) == 40) = false := by simpa using (show ¬ (b.toNat : Int) = 40 by omega)
  have E39 : ((b.toNat : Int) == 39) = false := by simpa using (show ¬ (b.toNat : Int) = 39 by omega)
  have E41 : ((b.toNat : Int) == 41) = false := by simpa using (show ¬ (b.toNat : Int) = 41 by omega)
  have E35 : ((b.toNat : Int) == 35) = true := by simpa using (show (b.toNat : Int) = 35 by omega)
  have e9 : IntKind.i64.wrap ((p : Int) + 1) = (p : Int) + 1 := by rw [IntKind.wrap_i64]; omega
  have e10 : IntKind.i64.wrap ((p : Int) + 2) = (p : Int) + 2 := by rw [IntKind.wrap_i64]; omega
  clear hbv hbn
  have q1 : decide ((s.size : Int) ≤ (p : Int) + 1) = false := decide_eq_false (by omega)
  have HCC : Hid (s[p + 1]'hp1 = 116 ∨ s[p + 1]'hp1 = 102) := .inl (u8_is _ 116 h116)
  have F116 : (((s[p + 1]'hp1).toNat : Int) == 116) = true := by rw [beq_iff_eq]; omega
  have G116 : (((s[p + 1]'hp1).toNat : Int) != 116) = false := by simp [bne, F116]
  clear h116
  have q2 : decide ((p : Int) + 2 < (s.size : Int)) = true := decide_eq_true (by omega)
  have HSG := Lib.hid hsg
  go_enter Try.func64, Try.ntmps64
  go_upto_region 1 with fail
  have HC : Hid (∀ w', Below w.heap.size w w' → w'.cell? ⟨g, 0, none⟩ = some (.string s) ∧ w'.cell? ⟨g, 1, none⟩ = some (.int .i64 (p : Int)) ∧ w'.cell? ⟨g, 2, none⟩ = some (.slice ao es.length c) ∧ w'.cell? ⟨g, 3, none⟩ = some dv) := fun w' hw' => by
    have h9 : w'.heap[g]? = some (.cells #[.string s, .int .i64 (p : Int), .slice ao es.length c, dv] 114 (0, 0)) := by rw [hw'.block g HR.out.lt]; exact HR.out
    exact Rs3.cells (p := p) h9
  have HS0 : Hid (Below w.heap.size w w.drew) := (Below.refl _ _).drew
  replace HS : Hid (Stt D g s p es out w w.drew) := HS.out.drew HR.out.lt
  replace HR : Hid (Rs3 w.drew g s p (.slice ao es.length c) dv) := HR.out
  refine wp_region_noPanic ?_
  refine wp_region_held_drew (S := Below w.heap.size w) (by kernel_rfl) HS0.out (fun hHeld => ?_)
  generalize w.drew = X1 at HS0 HS HR hHeld ⊢
  refine qtk (i := 0) (v := ?v208) rfl rfl (fun w' hw' => ?h208) hHeld ?r208
  case h208 => go_simp; try with_reducible rfl
  simp only [zt,zs,zz,Act.put,zi,zy,zx]
  refine qtk (i := 1) (v := ?v209) rfl rfl (fun w' hw' => ?h209) hHeld ?r209
  case h209 => go_simp; try with_reducible rfl
  simp only [zt,zs,zz,Act.put,zi,zy,zx]
  refine qtk (i := 2) (v := ?v210) rfl rfl (fun w' hw' => ?h210) hHeld ?r210
  case h210 => go_simp; try with_reducible rfl
  simp only [zt,zs,zz,Act.put,zi,zy,zx]
  refine qtk (i := 3) (v := ?v211) rfl rfl (fun w' hw' => ?h211) hHeld ?r211
  case h211 => (obtain ⟨d0, d1, d2, d3⟩ := HC.out w' hw'; go_simp); try with_reducible rfl
  simp only [zt,zs,zz,Act.put,zi,zy,zx]
  refine qtk (i := 4) (v := ?v212) rfl rfl (fun w' hw' => ?h212) hHeld ?r212
  case h212 => go_simp; try with_reducible rfl
  simp only [zt,zs,zz,Act.put,zi,zy,zx]
  refine qtk (i := 5) (v := ?v213) rfl rfl (fun w' hw' => ?h213) hHeld ?r213
  case h213 => go_simp; try with_reducible rfl
  simp only [zt,zs,zz,Act.put,zi,zy,zx]
  refine qtk (i := 6) (v := ?v214) rfl rfl (fun w' hw' => ?h214) hHeld ?r214
  case h214 => go_simp; try with_reducible rfl
  simp only [zt,zs,zz,Act.put,zi,zy,zx]
  refine qtk (i := 7) (v := ?v215) rfl rfl (fun w' hw' => ?h215) hHeld ?r215
  case h215 => (obtain ⟨d0, d1, d2, d3⟩ := HC.out w' hw'; go_simp); try with_reducible rfl
  simp only [zt,zs,zz,Act.put,zi,zy,zx]
  refine qtk (i := 8) (v := Value.int .u8 ((s[p]'hp).toNat : Int)) rfl rfl (fun w' hw' => ?_) hHeld ?_
  · go_simp
  simp only [zt,zs,zz,Act.put,zi,zy,zx]
  refine qtk (i := 9) (v := ?v217) rfl rfl (fun w' hw' => ?h217) hHeld ?r217
  case h217 => go_simp; try with_reducible rfl
  simp only [zt,zs,zz,Act.put,zi,zy,zx]
  refine wpAnyH_done (by kernel_rfl) ?_ _
  refine NoPanic.normal ?_
  clear hHeld
  clear HC HS0
  rw [HBB.out]
  have HN : Hid (nxt s p b es out = (3, p, es, out)) := by
    show _ = _
    rw [nxt_tok HNE.out.1 HNE.out.2.1 HNE.out.2.2 (by rw [hash_b hp (by rw [HBB.out]; exact HBV.out) hp1, if_neg (fun h => by have h1 := row_pos hp2 HSG.out; have h2 := h.2; omega)])]
  go_upto_region 16 with fail
  have HC : Hid (∀ w', Below X1.heap.size X1 w' → w'.cell? ⟨g, 0, none⟩ = some (.string s) ∧ w'.cell? ⟨g, 1, none⟩ = some (.int .i64 (p : Int)) ∧ w'.cell? ⟨g, 2, none⟩ = some (.slice ao es.length c) ∧ w'.cell? ⟨g, 3, none⟩ = some dv) := fun w' hw' => by
    have h9 : w'.heap[g]? = some (.cells #[.string s, .int .i64 (p : Int), .slice ao es.length c, dv] 114 (0, 0)) := by rw [hw'.block g HR.out.lt]; exact HR.out
    exact Rs3.cells (p := p) h9
  have HS0 : Hid (Below X1.heap.size X1 X1.drew) := (Below.refl _ _).drew
  replace HS : Hid (Stt D g s p es out w X1.drew) := HS.out.drew HR.out.lt
  replace HR : Hid (Rs3 X1.drew g s p (.slice ao es.length c) dv) := HR.out
  refine wp_region_noPanic ?_
  refine wp_region_held_drew (S := Below X1.heap.size X1) (by kernel_rfl) HS0.out (fun hHeld => ?_)
  generalize X1.drew = X2 at HS0 HS HR hHeld ⊢
  refine qtk (i := 0) (v := ?v146) rfl rfl (fun w' hw' => ?h146) hHeld ?r146
  case h146 => go_simp; try with_reducible rfl
  simp only [zt,zs,zz,Act.put,zi,zy,zx]
  refine qtk (i := 1) (v := ?v147) rfl rfl (fun w' hw' => ?h147) hHeld ?r147
  case h147 => go_simp; try with_reducible rfl
  simp only [zt,zs,zz,Act.put,zi,zy,zx]
  refine qtk (i := 2) (v := ?v148) rfl rfl (fun w' hw' => ?h148) hHeld ?r148
  case h148 => go_simp; try with_reducible rfl
  simp only [zt,zs,zz,Act.put,zi,zy,zx]
  refine qtk (i := 3) (v := ?v149) rfl rfl (fun w' hw' => ?h149) hHeld ?r149
  case h149 => (obtain ⟨d0, d1, d2, d3⟩ := HC.out w' hw'; go_simp); try with_reducible rfl
  simp only [zt,zs,zz,Act.put,zi,zy,zx]
  refine qtk (i := 4) (v := Value.int .i64 ((p : Int) + 1)) rfl rfl (fun w' hw' => ?_) hHeld ?_
  · go_simp; try omega
  simp only [zt,zs,zz,Act.put,zi,zy,zx]
  refine qtk (i := 5) (v := ?v151) rfl rfl (fun w' hw' => ?h151) hHeld ?r151
  case h151 => go_simp; try with_reducible rfl
  simp only [zt,zs,zz,Act.put,zi,zy,zx]
  refine qtk (i := 6) (v := ?v152) rfl rfl (fun w' hw' => ?h152) hHeld ?r152
  case h152 => go_simp; try with_reducible rfl
  simp only [zt,zs,zz,Act.put,zi,zy,zx]
  refine qtk (i := 7) (v := ?v153) rfl rfl (fun w' hw' => ?h153) hHeld ?r153
  case h153 => go_simp; try with_reducible rfl
  simp only [zt,zs,zz,Act.put,zi,zy,zx]
  refine qtk (i := 8) (v := ?v154) rfl rfl (fun w' hw' => ?h154) hHeld ?r154
  case h154 => (obtain ⟨d0, d1, d2, d3⟩ := HC.out w' hw'; go_simp); try with_reducible rfl
  simp only [zt,zs,zz,Act.put,zi,zy,zx]
  refine qtk (i := 9) (v := ?v155) rfl rfl (fun w' hw' => ?h155) hHeld ?r155
  case h155 => go_simp; try with_reducible rfl
  simp only [zt,zs,zz,Act.put,zi,zy,zx]
  refine qtk (i := 10) (v := Value.bool false) rfl rfl (fun w' hw' => ?_) hHeld ?_
  · go_simp; try omega
  simp only [zt,zs,zz,Act.put,zi,zy,zx]
  refine qtk (i := 11) (v := Value.bool false) rfl rfl (fun w' hw' => ?_) hHeld ?_
  · go_simp; try omega
  simp only [zt,zs,zz,Act.put,zi,zy,zx]
  refine qtk (i := 12) (v := ?v158) rfl rfl (fun w' hw' => ?h158) hHeld ?r158
  case h158 => go_simp; try with_reducible rfl
  simp only [zt,zs,zz,Act.put,zi,zy,zx]
  refine qtk (i := 13) (v := ?v159) rfl rfl (fun w' hw' => ?h159) hHeld ?r159
  case h159 => go_simp; try with_reducible rfl
  simp only [zt,zs,zz,Act.put,zi,zy,zx]
  refine qtk (i := 14) (v := ?v160) rfl rfl (fun w' hw' => ?h160) hHeld ?r160
  case h160 => go_simp; try with_reducible rfl
  simp only [zt,zs,zz,Act.put,zi,zy,zx]
  refine qtk (i := 15) (v := ?v161) rfl rfl (fun w' hw' => ?h161) hHeld ?r161
  case h161 => (obtain ⟨d0, d1, d2, d3⟩ := HC.out w' hw'; go_simp); try with_reducible rfl
  simp only [zt,zs,zz,Act.put,zi,zy,zx]
  refine qtk (i := 16) (v := ?v162) rfl rfl (fun w' hw' => ?h162) hHeld ?r162
  case h162 => go_simp; try with_reducible rfl
  simp only [zt,zs,zz,Act.put,zi,zy,zx]
  refine qtk (i := 17) (v := ?v163) rfl rfl (fun w' hw' => ?h163) hHeld ?r163
  case h163 => go_simp; try with_reducible rfl
  simp only [zt,zs,zz,Act.put,zi,zy,zx]
  refine qtk (i := 18) (v := ?v164) rfl rfl (fun w' hw' => ?h164) hHeld ?r164
  case h164 => go_simp; try with_reducible rfl
  simp only [zt,zs,zz,Act.put,zi,zy,zx]
  refine qtk (i := 19) (v := ?v165) rfl rfl (fun w' hw' => ?h165) hHeld ?r165
  case h165 => (obtain ⟨d0, d1, d2, d3⟩ := HC.out w' hw'; go_simp); try with_reducible rfl
  simp only [zt,zs,zz,Act.put,zi,zy,zx]
  refine qtk (i := 20) (v := Value.int .i64 ((p : Int) + 1)) rfl rfl (fun w' hw' => ?_) hHeld ?_
  · go_simp; try omega
  simp only [zt,zs,zz,Act.put,zi,zy,zx]
  refine qtk (i := 21) (v := Value.int .u8 ((s[p + 1]'hp1).toNat : Int)) rfl rfl (fun w' hw' => ?_) hHeld ?_
  · go_simp; rw [dif_pos (by omega)]; rfl
  simp only [zt,zs,zz,Act.put,zi,zy,zx]
  refine qtk (i := 22) (v := Value.bool false) rfl rfl (fun w' hw' => ?_) hHeld ?_
  · go_simp; try omega
  simp only [zt,zs,zz,Act.put,zi,zy,zx]
  refine qtk (i := 23) (v := Value.bool false) rfl rfl (fun w' hw' => ?_) hHeld ?_
  · go_simp; try omega
  simp only [zt,zs,zz,Act.put,zi,zy,zx]
  refine qtu (i := 24) rfl rfl hHeld ?_
  simp only [zt,zs,zz,Act.put,zi,zy,zx]
  refine qtu (i := 25) rfl rfl hHeld ?_
  simp only [zt,zs,zz,Act.put,zi,zy,zx]
  refine qtu (i := 26) rfl rfl hHeld ?_
  simp only [zt,zs,zz,Act.put,zi,zy,zx]
  refine qtu (i := 27) rfl rfl hHeld ?_
  simp only [zt,zs,zz,Act.put,zi,zy,zx]
  refine qtu (i := 28) rfl rfl hHeld ?_
  simp only [zt,zs,zz,Act.put,zi,zy,zx]
  refine qtu (i := 29) rfl rfl hHeld ?_
  simp only [zt,zs,zz,Act.put,zi,zy,zx]
  refine qtu (i := 30) rfl rfl hHeld ?_
  simp only [zt,zs,zz,Act.put,zi,zy,zx]
  refine qtu (i := 31) rfl rfl hHeld ?_
  simp only [zt,zs,zz,Act.put,zi,zy,zx]
  refine qtu (i := 32) rfl rfl hHeld ?_
  simp only [zt,zs,zz,Act.put,zi,zy,zx]
  refine qtu (i := 33) rfl rfl hHeld ?_
  simp only [zt,zs,zz,Act.put,zi,zy,zx]
  refine qtu (i := 34) rfl rfl hHeld ?_
  simp only [zt,zs,zz,Act.put,zi,zy,zx]
  refine qtk (i := 35) (v := Value.bool false) rfl rfl (fun w' hw' => ?_) hHeld ?_
  · go_simp; try omega
  simp only [zt,zs,zz,Act.put,zi,zy,zx]
  refine qtk (i := 36) (v := Value.bool false) rfl rfl (fun w' hw' => ?_) hHeld ?_
  · go_simp; try omega
  simp only [zt,zs,zz,Act.put,zi,zy,zx]
  refine qtk (i := 37) (v := Value.bool false) rfl rfl (fun w' hw' => ?_) hHeld ?_
  · go_simp; try omega
  simp only [zt,zs,zz,Act.put,zi,zy,zx]
  refine qtk (i := 38) (v := ?v184) rfl rfl (fun w' hw' => ?h184) hHeld ?r184
  case h184 => go_simp; try with_reducible rfl
  simp only [zt,zs,zz,Act.put,zi,zy,zx]
  refine qtk (i := 39) (v := ?v185) rfl rfl (fun w' hw' => ?h185) hHeld ?r185
  case h185 => go_simp; try with_reducible rfl
  simp only [zt,zs,zz,Act.put,zi,zy,zx]
  refine qtk (i := 40) (v := ?v186) rfl rfl (fun w' hw' => ?h186) hHeld ?r186
  case h186 => go_simp; try with_reducible rfl
  simp only [zt,zs,zz,Act.put,zi,zy,zx]
  refine qtk (i := 41) (v := ?v187) rfl rfl (fun w' hw' => ?h187) hHeld ?r187
  case h187 => (obtain ⟨d0, d1, d2, d3⟩ := HC.out w' hw'; go_simp); try with_reducible rfl
  simp only [zt,zs,zz,Act.put,zi,zy,zx]
  refine qtk (i := 42) (v := Value.int .i64 ((p : Int) + 2)) rfl rfl (fun w' hw' => ?_) hHeld ?_
  · go_simp; try omega
  simp only [zt,zs,zz,Act.put,zi,zy,zx]
  refine qtk (i := 43) (v := ?v189) rfl rfl (fun w' hw' => ?h189) hHeld ?r189
  case h189 => go_simp; try with_reducible rfl
  simp only [zt,zs,zz,Act.put,zi,zy,zx]
  refine qtk (i := 44) (v := ?v190) rfl rfl (fun w' hw' => ?h190) hHeld ?r190
  case h190 => go_simp; try with_reducible rfl
  simp only [zt,zs,zz,Act.put,zi,zy,zx]
  refine qtk (i := 45) (v := ?v191) rfl rfl (fun w' hw' => ?h191) hHeld ?r191
  case h191 => go_simp; try with_reducible rfl
  simp only [zt,zs,zz,Act.put,zi,zy,zx]
  refine qtk (i := 46) (v := ?v192) rfl rfl (fun w' hw' => ?h192) hHeld ?r192
  case h192 => (obtain ⟨d0, d1, d2, d3⟩ := HC.out w' hw'; go_simp); try with_reducible rfl
  simp only [zt,zs,zz,Act.put,zi,zy,zx]
  refine qtk (i := 47) (v := ?v193) rfl rfl (fun w' hw' => ?h193) hHeld ?r193
  case h193 => go_simp; try with_reducible rfl
  simp only [zt,zs,zz,Act.put,zi,zy,zx]
  refine qtk (i := 48) (v := Value.bool true) rfl rfl (fun w' hw' => ?_) hHeld ?_
  · go_simp; try omega
  simp only [zt,zs,zz,Act.put,zi,zy,zx]
  refine qtk (i := 49) (v := Value.bool true) rfl rfl (fun w' hw' => ?_) hHeld ?_
  · go_simp; try omega
  simp only [zt,zs,zz,Act.put,zi,zy,zx]
  refine qtk (i := 50) (v := ?v196) rfl rfl (fun w' hw' => ?h196) hHeld ?r196
  case h196 => go_simp; try with_reducible rfl
  simp only [zt,zs,zz,Act.put,zi,zy,zx]
  refine qtk (i := 51) (v := ?v197) rfl rfl (fun w' hw' => ?h197) hHeld ?r197
  case h197 => go_simp; try with_reducible rfl
  simp only [zt,zs,zz,Act.put,zi,zy,zx]
  refine qtk (i := 52) (v := ?v198) rfl rfl (fun w' hw' => ?h198) hHeld ?r198
  case h198 => go_simp; try with_reducible rfl
  simp only [zt,zs,zz,Act.put,zi,zy,zx]
  refine qtk (i := 53) (v := ?v199) rfl rfl (fun w' hw' => ?h199) hHeld ?r199
  case h199 => (obtain ⟨d0, d1, d2, d3⟩ := HC.out w' hw'; go_simp); try with_reducible rfl
  simp only [zt,zs,zz,Act.put,zi,zy,zx]
  refine qtk (i := 54) (v := ?v200) rfl rfl (fun w' hw' => ?h200) hHeld ?r200
  case h200 => go_simp; try with_reducible rfl
  simp only [zt,zs,zz,Act.put,zi,zy,zx]
  refine qtk (i := 55) (v := ?v201) rfl rfl (fun w' hw' => ?h201) hHeld ?r201
  case h201 => go_simp; try with_reducible rfl
  simp only [zt,zs,zz,Act.put,zi,zy,zx]
  refine qtk (i := 56) (v := ?v202) rfl rfl (fun w' hw' => ?h202) hHeld ?r202
  case h202 => go_simp; try with_reducible rfl
  simp only [zt,zs,zz,Act.put,zi,zy,zx]
  refine qtk (i := 57) (v := ?v203) rfl rfl (fun w' hw' => ?h203) hHeld ?r203
  case h203 => (obtain ⟨d0, d1, d2, d3⟩ := HC.out w' hw'; go_simp); try with_reducible rfl
  simp only [zt,zs,zz,Act.put,zi,zy,zx]
  refine qtk (i := 58) (v := Value.int .i64 ((p : Int) + 2)) rfl rfl (fun w' hw' => ?_) hHeld ?_
  · go_simp; try omega
  simp only [zt,zs,zz,Act.put,zi,zy,zx]
  refine qtk (i := 59) (v := Value.int .u8 ((s[p + 2]'hp2).toNat : Int)) rfl rfl (fun w' hw' => ?_) hHeld ?_
  · go_simp; rw [dif_pos (by omega)]; have e : ((p : Int) + 2).toNat = p + 2 := (by omega); simp only [e]; rfl
  simp only [zt,zs,zz,Act.put,zi,zy,zx]
  refine wpAnyH_ready (rs := [60]) (by kernel_rfl) (by simp) ?_
  refine (AllReadyH.cons rfl (fun K hK => ?_) AllReadyH.nil)
  go_simp
  refine (sign_any _ _).mono ?_
  rintro e w' ⟨rfl, rfl⟩
  simp only [hsg]
  refine hK.out _ _ hHeld (fun hHeld => ?_)
  clear hK K
  try simp only [zt,zs,zz,Act.put,zi,zy,zx]
  refine qtk (i := 61) (v := Value.bool true) rfl rfl (fun w' hw' => ?_) hHeld ?_
  · go_simp; try omega
  simp only [zt,zs,zz,Act.put,zi,zy,zx]
  refine qtk (i := 62) (v := Value.bool true) rfl rfl (fun w' hw' => ?_) hHeld ?_
  · go_simp; try omega
  simp only [zt,zs,zz,Act.put,zi,zy,zx]
  refine wpAnyH_done (by kernel_rfl) ?_ _
  refine NoPanic.normal ?_
  clear hHeld
  clear HC HS0
  go_wp2_with fail
  go_ret
  have hn := HN.out
  unfold RetNx
  rw [hn]
  exact ⟨rfl, HS.out.low, HS.out.size, fun h => absurd h (by simp), fun _ => ⟨_, _, HR.out⟩⟩
end Go.Proofs.Ythhaegncnoekbaa
