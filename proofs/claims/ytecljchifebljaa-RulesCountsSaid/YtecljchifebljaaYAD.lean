/- The document's reader: what does not count. -/
import Derived.Test.YtecljchifebljaaYAA
import Derived.Test.YtecljchifebljaaYAC
set_option linter.unusedVariables false
set_option linter.unusedSimpArgs false
namespace Go.Proofs.Ytecljchifebljaa
open Go.RowKit Go.BigM
/-- The place at which what does not count ends. -/
def gapAt (s : ByteArray) (b : Bool) (p : Nat) : Nat := p + gapOf b (s.data.toList.drop p)
theorem drop_at (s : ByteArray) (p : Nat) (h : p < s.size) : s.data.toList.drop p = s[p] :: s.data.toList.drop (p + 1) := by
 have hl : p < s.data.toList.length := by rw [← Lib.size_eq]; exact h
 rw [List.drop_eq_getElem_cons hl]
 rfl
theorem gapAt_end (s : ByteArray) (b : Bool) (p : Nat) (h : p = s.size) : gapAt s b p = p := by
 unfold gapAt
 rw [List.drop_eq_nil_of_le (by rw [← Lib.size_eq]; omega)]
 simp [gapOf]
theorem gapAt_blank (s : ByteArray) (p : Nat) (h : p < s.size) (hc : s[p] = 32 ∨ s[p] = 9 ∨ s[p] = 10) : gapAt s false p = gapAt s false (p + 1) := by
 unfold gapAt
 rw [drop_at s p h, gap_blank _ hc]; omega
theorem gapAt_semi (s : ByteArray) (p : Nat) (h : p < s.size) (hc : s[p] = 59) : gapAt s false p = gapAt s true p := by
 unfold gapAt
 rw [drop_at s p h, hc, gap_semi]
theorem gapAt_in (s : ByteArray) (p : Nat) (h : p < s.size) (hc : s[p] ≠ 10) : gapAt s true p = gapAt s true (p + 1) := by
 unfold gapAt
 rw [drop_at s p h, gap_in _ hc]; omega
theorem gapAt_out (s : ByteArray) (p : Nat) (h : p < s.size) (hc : s[p] = 10) : gapAt s true p = gapAt s false p := by
 unfold gapAt
 rw [drop_at s p h, hc, gap_out]
theorem gapAt_stop (s : ByteArray) (p : Nat) (h : p < s.size) (hc : ¬ (s[p] = 32 ∨ s[p] = 9 ∨ s[p] = 10)) (h2 : s[p] ≠ 59) : gapAt s false p = p := by
 unfold gapAt
 rw [drop_at s p h, gap_stop _ hc h2]; omega
def RetSkip (g : Nat) (s : ByteArray) (p : Nat) (ov dv : Value) (w : World) (e : Ending) (w' : World) : Prop := e = .returned (.tuple #[]) ∧ Rs3 w' g s (gapAt s false p) ov dv ∧ Only g w w' ∧ gapAt s false p ≤ s.size
def SkInv (g : Nat) (s : ByteArray) (p : Nat) (b : Bool) (ov dv : Value) (w wr : World) : Prop := ∃ q : Nat, q ≤ s.size ∧ gapAt s b q = gapAt s false p ∧ Rs3 wr g s q ov dv ∧ Only g w wr
theorem Only.drew (g : Nat) (w : World) : Only g w w.drew := ⟨rfl, rfl, rfl, rfl, fun _ _ => rfl⟩
def plc (g : Nat) (w : World) : Nat := match w.cell? ⟨g, 1, none⟩ with | some (.int _ p) => p.toNat | _ => 0
theorem Rs3.plc {w : World} {g p : Nat} {s : ByteArray} {ov dv : Value} (h : Rs3 w g s p ov dv) : plc g w = p := by
 unfold Go.Proofs.Ytecljchifebljaa.plc
 rw [h.cells.2.1]; simp
theorem Rs3.frozen {w : World} {g p : Nat} {s : ByteArray} {ov dv : Value} (h : Rs3 w g s p ov dv) (i : Nat) : w.frozen? ⟨g, i, none⟩ = false := frozen_of_row w g i _ 114 h
def SkIn (g : Nat) (s : ByteArray) (p q : Nat) (ov dv : Value) (w wr : World) : Prop := ∃ q2 : Nat, q ≤ q2 ∧ q2 ≤ s.size ∧ gapAt s true q2 = gapAt s false p ∧ Rs3 wr g s q2 ov dv ∧ Only g w wr
theorem wrap_succ (q : Nat) (h : q ≤ 9000) : IntKind.i64.wrap ((q : Int) + 1) = ((q + 1 : Nat) : Int) := by rw [IntKind.wrap_i64]; omega
theorem u8_is (c : UInt8) (v : Nat) (h : c.toNat = v) : c = UInt8.ofNat v := by rw [← h]; simp
set_option maxHeartbeats 16000000 in
set_option maxRecDepth 100000 in
theorem skip_any (g : Nat) (s : ByteArray) (p : Nat) (ov dv : Value) (w : World) (h : Rs3 w g s p ov dv) (hp : p ≤ s.size) (hs : s.size ≤ 9000) : Calls Try.prog 63 #[.pointer (some ⟨g, 0, none⟩)] w (RetSkip g s p ov dv w) := by
 have HST0 : Hid (SkInv g s p false ov dv w w) := ⟨p, hp, rfl, h, Only.refl _ _⟩
 clear h
 go_enter Try.func63, Try.ntmps63
 go_wp2_with fail
 go_loopw [] (fun wr => SkInv g s p false ov dv w wr) (fun wr => s.size - plc g wr)
 case atStart => exact HST0.out
 case round =>
  obtain ⟨q, hq, hgap, hR, hO⟩ := hrel
  have HPW := Lib.hid hR.plc
  have HR := Lib.hid hR
  have HO := Lib.hid hO
  have HG := Lib.hid hgap
  clear hR hO hgap HST0
  by_cases hlt : q < s.size
  ·have q1 : decide ((q : Int) < (s.size : Int)) = true := decide_eq_true (by omega)
   go_upto_region 0 with fail
   have HC : Hid (∀ w', Below wr.heap.size wr w' → w'.cell? ⟨g, 0, none⟩ = some (.string s) ∧ w'.cell? ⟨g, 1, none⟩ = some (.int .i64 (q : Int)) ∧ w'.cell? ⟨g, 2, none⟩ = some ov ∧ w'.cell? ⟨g, 3, none⟩ = some dv) := fun w' hw' => by
    have h9 : w'.heap[g]? = some (.cells #[.string s, .int .i64 (q : Int), ov, dv] 114 (0, 0)) := by rw [hw'.block g HR.out.lt]; exact HR.out
    exact Rs3.cells (p := q) h9
   have HS0 : Hid (Below wr.heap.size wr wr.drew) := (Below.refl _ _).drew
   replace HO : Hid (Only g w wr.drew) := HO.out.trans (Only.drew g wr)
   replace HR : Hid (Rs3 wr.drew g s q ov dv) := HR.out
   refine wp_region_noPanic ?_
   refine wp_region_held_drew (S := Below wr.heap.size wr) (by kernel_rfl) HS0.out (fun hHeld => ?_)
   generalize wr.drew = X0 at HS0 HO HR hHeld ⊢
   refine qts [0, 1, 2, 3, 4, 5, 6, 7, 8, 9] hHeld ?_
   iterate 2 (refine qtc (v := Value.pointer (some ⟨g, 0, none⟩)) rfl rfl (fun w' hw' => ?_) ?_; (focus (go_simp)); simp only [zt,zs,zz,Act.put,zi,zy,zx])
   (refine qtc (v := Value.pointer (some ⟨g, 1, none⟩)) rfl rfl (fun w' hw' => ?_) ?_; (focus (go_simp)); simp only [zt,zs,zz,Act.put,zi,zy,zx])
   (refine qtc (v := Value.int .i64 (q : Int)) rfl rfl (fun w' hw' => ?_) ?_; (focus (obtain ⟨d0, d1, d2, d3⟩ := HC.out w' hw'; go_simp)); simp only [zt,zs,zz,Act.put,zi,zy,zx])
   iterate 3 (refine qtc (v := Value.pointer (some ⟨g, 0, none⟩)) rfl rfl (fun w' hw' => ?_) ?_; (focus (go_simp)); simp only [zt,zs,zz,Act.put,zi,zy,zx])
   (refine qtc (v := Value.string s) rfl rfl (fun w' hw' => ?_) ?_; (focus (obtain ⟨d0, d1, d2, d3⟩ := HC.out w' hw'; go_simp)); simp only [zt,zs,zz,Act.put,zi,zy,zx])
   (refine qtc (v := Value.int .i64 (s.size : Int)) rfl rfl (fun w' hw' => ?_) ?_; (focus (go_simp)); simp only [zt,zs,zz,Act.put,zi,zy,zx])
   (refine qtc (v := Value.bool true) rfl rfl (fun w' hw' => ?_) ?_; (focus (go_simp)); simp only [zt,zs,zz,Act.put,zi,zy,zx])
   refine qtn ?_
   simp only [zt,zs,zz,Act.put,zi,zy,zx,qzl,qzn,qza,Nat.reduceAdd,Nat.reduceSub]
   refine wpAnyH_done (by kernel_rfl) ?_ _
   refine NoPanic.normal ?_
   clear hHeld
   clear HC HS0
   go_upto_region 1 with fail
   have HC : Hid (∀ w', Below X0.heap.size X0 w' → w'.cell? ⟨g, 0, none⟩ = some (.string s) ∧ w'.cell? ⟨g, 1, none⟩ = some (.int .i64 (q : Int)) ∧ w'.cell? ⟨g, 2, none⟩ = some ov ∧ w'.cell? ⟨g, 3, none⟩ = some dv) := fun w' hw' => by
    have h9 : w'.heap[g]? = some (.cells #[.string s, .int .i64 (q : Int), ov, dv] 114 (0, 0)) := by rw [hw'.block g HR.out.lt]; exact HR.out
    exact Rs3.cells (p := q) h9
   have HS0 : Hid (Below X0.heap.size X0 X0.drew) := (Below.refl _ _).drew
   replace HO : Hid (Only g w X0.drew) := HO.out.trans (Only.drew g X0)
   replace HR : Hid (Rs3 X0.drew g s q ov dv) := HR.out
   refine wp_region_noPanic ?_
   refine wp_region_held_drew (S := Below X0.heap.size X0) (by kernel_rfl) HS0.out (fun hHeld => ?_)
   generalize X0.drew = X1 at HS0 HO HR hHeld ⊢
   refine qts [0, 1, 2, 3, 4, 5, 6, 7, 8, 9] hHeld ?_
   iterate 3 (refine qtc (v := Value.pointer (some ⟨g, 0, none⟩)) rfl rfl (fun w' hw' => ?_) ?_; (focus (go_simp)); simp only [zt,zs,zz,Act.put,zi,zy,zx])
   (refine qtc (v := Value.string s) rfl rfl (fun w' hw' => ?_) ?_; (focus (obtain ⟨d0, d1, d2, d3⟩ := HC.out w' hw'; go_simp)); simp only [zt,zs,zz,Act.put,zi,zy,zx])
   iterate 2 (refine qtc (v := Value.pointer (some ⟨g, 0, none⟩)) rfl rfl (fun w' hw' => ?_) ?_; (focus (go_simp)); simp only [zt,zs,zz,Act.put,zi,zy,zx])
   (refine qtc (v := Value.pointer (some ⟨g, 1, none⟩)) rfl rfl (fun w' hw' => ?_) ?_; (focus (go_simp)); simp only [zt,zs,zz,Act.put,zi,zy,zx])
   (refine qtc (v := Value.int .i64 (q : Int)) rfl rfl (fun w' hw' => ?_) ?_; (focus (obtain ⟨d0, d1, d2, d3⟩ := HC.out w' hw'; go_simp)); simp only [zt,zs,zz,Act.put,zi,zy,zx])
   iterate 2 (refine qtc (v := Value.int .u8 ((s[q]'hlt).toNat : Int)) rfl rfl (fun w' hw' => ?_) ?_; (focus (go_simp)); simp only [zt,zs,zz,Act.put,zi,zy,zx])
   refine qtn ?_
   simp only [zt,zs,zz,Act.put,zi,zy,zx,qzl,qzn,qza,Nat.reduceAdd,Nat.reduceSub]
   refine wpAnyH_done (by kernel_rfl) ?_ _
   refine NoPanic.normal ?_
   clear hHeld
   clear HC HS0
   obtain ⟨c, hc⟩ : ∃ c, c = s[q]'hlt := ⟨_, rfl⟩
   simp only [← hc]
   by_cases h32 : c.toNat = 32
   ·skip
    have E32 : ((c.toNat : Int) == 32) = true := by simpa using (show (c.toNat : Int) = 32 by omega)
    have HST : Hid (gapAt s false q = gapAt s false (q + 1)) := gapAt_blank s q hlt (by rw [← hc]; exact .inl (u8_is c 32 h32))
    have HCC := Lib.hid hc
    clear hc h32
    have d1 := HR.out.cells.2.1
    have fz := HR.out.frozen 1
    have HR1 := Lib.hid (HR.out.setP (q + 1))
    have HO1 := Lib.hid (HO.out.trans (Only.set g 1 (.int .i64 ((q + 1 : Nat) : Int)) X1))
    have e9 := wrap_succ q (by omega)
    have hpl := HR1.out.plc
    have HPL := Lib.hid hpl
    clear hpl HR HO
    go_wp2_with fail
    go_roundw
    case rel => exact ⟨q + 1, by omega, by rw [← HST.out]; exact HG.out, HR1.out, HO1.out⟩
    case measure =>
     have h1 := HPL.out
     push_cast at h1
     have h2 := HPW.out
     omega
   ·by_cases h9 : c.toNat = 9
    ·skip
     have E32 : ((c.toNat : Int) == 32) = false := by simpa using (show ¬ (c.toNat : Int) = 32 by omega)
     have E9 : ((c.toNat : Int) == 9) = true := by simpa using (show (c.toNat : Int) = 9 by omega)
     have HST : Hid (gapAt s false q = gapAt s false (q + 1)) := gapAt_blank s q hlt (by rw [← hc]; exact .inr (.inl (u8_is c 9 h9)))
     have HCC := Lib.hid hc
     clear hc h32 h9
     have d1 := HR.out.cells.2.1
     have fz := HR.out.frozen 1
     have HR1 := Lib.hid (HR.out.setP (q + 1))
     have HO1 := Lib.hid (HO.out.trans (Only.set g 1 (.int .i64 ((q + 1 : Nat) : Int)) X1))
     have e9 := wrap_succ q (by omega)
     have hpl := HR1.out.plc
     have HPL := Lib.hid hpl
     clear hpl HR HO
     go_wp2_with fail
     go_roundw
     case rel => exact ⟨q + 1, by omega, by rw [← HST.out]; exact HG.out, HR1.out, HO1.out⟩
     case measure =>
      have h1 := HPL.out
      push_cast at h1
      have h2 := HPW.out
      omega
    ·by_cases h10 : c.toNat = 10
     ·skip
      have E32 : ((c.toNat : Int) == 32) = false := by simpa using (show ¬ (c.toNat : Int) = 32 by omega)
      have E9 : ((c.toNat : Int) == 9) = false := by simpa using (show ¬ (c.toNat : Int) = 9 by omega)
      have E10 : ((c.toNat : Int) == 10) = true := by simpa using (show (c.toNat : Int) = 10 by omega)
      have HST : Hid (gapAt s false q = gapAt s false (q + 1)) := gapAt_blank s q hlt (by rw [← hc]; exact .inr (.inr (u8_is c 10 h10)))
      have HCC := Lib.hid hc
      clear hc h32 h9 h10
      have d1 := HR.out.cells.2.1
      have fz := HR.out.frozen 1
      have HR1 := Lib.hid (HR.out.setP (q + 1))
      have HO1 := Lib.hid (HO.out.trans (Only.set g 1 (.int .i64 ((q + 1 : Nat) : Int)) X1))
      have e9 := wrap_succ q (by omega)
      have hpl := HR1.out.plc
      have HPL := Lib.hid hpl
      clear hpl HR HO
      go_wp2_with fail
      go_roundw
      case rel => exact ⟨q + 1, by omega, by rw [← HST.out]; exact HG.out, HR1.out, HO1.out⟩
      case measure =>
       have h1 := HPL.out
       push_cast at h1
       have h2 := HPW.out
       omega
     ·by_cases h59 : c.toNat = 59
      ·skip
       have E32 : ((c.toNat : Int) == 32) = false := by simpa using (show ¬ (c.toNat : Int) = 32 by omega)
       have E9 : ((c.toNat : Int) == 9) = false := by simpa using (show ¬ (c.toNat : Int) = 9 by omega)
       have E10 : ((c.toNat : Int) == 10) = false := by simpa using (show ¬ (c.toNat : Int) = 10 by omega)
       have E59 : ((c.toNat : Int) == 59) = true := by simpa using (show (c.toNat : Int) = 59 by omega)
       have HSE : Hid (gapAt s false q = gapAt s true q) := gapAt_semi s q hlt (by rw [← hc]; exact u8_is c 59 h59)
       have HNE : Hid ((s[q]'hlt).toNat ≠ 10) := by show _ ≠ _; rw [← hc]; exact h10
       have HCC := Lib.hid hc
       clear hc h32 h9 h10 h59
       obtain ⟨wo, rfl⟩ : ∃ wo, wo = wr := ⟨_, rfl⟩
       go_wp2_with fail
       go_loopw [] (fun wz => SkIn g s p q ov dv w wz) (fun wz => s.size - plc g wz)
       case atStart => exact ⟨q, Nat.le_refl _, hq, by rw [← HSE.out]; exact HG.out, HR.out, HO.out⟩
       case round =>
        obtain ⟨q2, hqq, hq2, hgap2, hR2, hO2⟩ := hrel
        have HPW2 := Lib.hid hR2.plc
        have HG2 := Lib.hid hgap2
        clear HR HO
        have HR := Lib.hid hR2
        have HO := Lib.hid hO2
        clear hR2 hO2 hgap2
        by_cases hlt2 : q2 < s.size
        ·have q3 : decide ((q2 : Int) < (s.size : Int)) = true := decide_eq_true (by omega)
         by_cases h10b : (s[q2]'hlt2).toNat = 10
         ·have E10 : (((s[q2]'hlt2).toNat : Int) == 10) = true := by simpa using (show ((s[q2]'hlt2).toNat : Int) = 10 by omega)
          have E10b : (((s[q2]'hlt2).toNat : Int) != 10) = false := by simp [bne, E10]
          have hne : q ≠ q2 := by
           intro e
           subst e
           exact HNE.out (by omega)
          have HGG : Hid (gapAt s true q2 = gapAt s false q2) := gapAt_out s q2 hlt2 (u8_is _ 10 h10b)
          have HH := Lib.hid h10b
          clear h10b
          go_upto_region 5 with fail
          have HC : Hid (∀ w', Below wr.heap.size wr w' → w'.cell? ⟨g, 0, none⟩ = some (.string s) ∧ w'.cell? ⟨g, 1, none⟩ = some (.int .i64 (q2 : Int)) ∧ w'.cell? ⟨g, 2, none⟩ = some ov ∧ w'.cell? ⟨g, 3, none⟩ = some dv) := fun w' hw' => by
           have h9 : w'.heap[g]? = some (.cells #[.string s, .int .i64 (q2 : Int), ov, dv] 114 (0, 0)) := by rw [hw'.block g HR.out.lt]; exact HR.out
           exact Rs3.cells (p := q2) h9
          have HS0 : Hid (Below wr.heap.size wr wr.drew) := (Below.refl _ _).drew
          replace HO : Hid (Only g w wr.drew) := HO.out.trans (Only.drew g wr)
          replace HR : Hid (Rs3 wr.drew g s q2 ov dv) := HR.out
          refine wp_region_noPanic ?_
          refine wp_region_held_drew (S := Below wr.heap.size wr) (by kernel_rfl) HS0.out (fun hHeld => ?_)
          generalize wr.drew = X2 at HS0 HO HR hHeld ⊢
          refine qts [0, 1, 2, 3, 4, 5, 6, 7, 8, 9, 10, 11, 12, 13, 14, 15, 16, 17, 18, 19, 20, 21] hHeld ?_
          iterate 2 (refine qtc (v := Value.pointer (some ⟨g, 0, none⟩)) rfl rfl (fun w' hw' => ?_) ?_; (focus (go_simp)); simp only [zt,zs,zz,Act.put,zi,zy,zx])
          (refine qtc (v := Value.pointer (some ⟨g, 1, none⟩)) rfl rfl (fun w' hw' => ?_) ?_; (focus (go_simp)); simp only [zt,zs,zz,Act.put,zi,zy,zx])
          (refine qtc (v := Value.int .i64 (q2 : Int)) rfl rfl (fun w' hw' => ?_) ?_; (focus (obtain ⟨d0, d1, d2, d3⟩ := HC.out w' hw'; go_simp)); simp only [zt,zs,zz,Act.put,zi,zy,zx])
          iterate 3 (refine qtc (v := Value.pointer (some ⟨g, 0, none⟩)) rfl rfl (fun w' hw' => ?_) ?_; (focus (go_simp)); simp only [zt,zs,zz,Act.put,zi,zy,zx])
          (refine qtc (v := Value.string s) rfl rfl (fun w' hw' => ?_) ?_; (focus (obtain ⟨d0, d1, d2, d3⟩ := HC.out w' hw'; go_simp)); simp only [zt,zs,zz,Act.put,zi,zy,zx])
          (refine qtc (v := Value.int .i64 (s.size : Int)) rfl rfl (fun w' hw' => ?_) ?_; (focus (go_simp)); simp only [zt,zs,zz,Act.put,zi,zy,zx])
          iterate 2 (refine qtc (v := Value.bool true) rfl rfl (fun w' hw' => ?_) ?_; (focus (go_simp)); simp only [zt,zs,zz,Act.put,zi,zy,zx])
          iterate 3 (refine qtc (v := Value.pointer (some ⟨g, 0, none⟩)) rfl rfl (fun w' hw' => ?_) ?_; (focus (go_simp)); simp only [zt,zs,zz,Act.put,zi,zy,zx])
          (refine qtc (v := Value.string s) rfl rfl (fun w' hw' => ?_) ?_; (focus (obtain ⟨d0, d1, d2, d3⟩ := HC.out w' hw'; go_simp)); simp only [zt,zs,zz,Act.put,zi,zy,zx])
          iterate 2 (refine qtc (v := Value.pointer (some ⟨g, 0, none⟩)) rfl rfl (fun w' hw' => ?_) ?_; (focus (go_simp)); simp only [zt,zs,zz,Act.put,zi,zy,zx])
          (refine qtc (v := Value.pointer (some ⟨g, 1, none⟩)) rfl rfl (fun w' hw' => ?_) ?_; (focus (go_simp)); simp only [zt,zs,zz,Act.put,zi,zy,zx])
          (refine qtc (v := Value.int .i64 (q2 : Int)) rfl rfl (fun w' hw' => ?_) ?_; (focus (obtain ⟨d0, d1, d2, d3⟩ := HC.out w' hw'; go_simp)); simp only [zt,zs,zz,Act.put,zi,zy,zx])
          (refine qtc (v := Value.int .u8 ((s[q2]'hlt2).toNat : Int)) rfl rfl (fun w' hw' => ?_) ?_; (focus (go_simp)); simp only [zt,zs,zz,Act.put,zi,zy,zx])
          iterate 2 (refine qtc (v := Value.bool false) rfl rfl (fun w' hw' => ?_) ?_; (focus (go_simp)); simp only [zt,zs,zz,Act.put,zi,zy,zx])
          refine qtn ?_
          simp only [zt,zs,zz,Act.put,zi,zy,zx,qzl,qzn,qza,Nat.reduceAdd,Nat.reduceSub]
          refine wpAnyH_done (by kernel_rfl) ?_ _
          refine NoPanic.normal ?_
          clear hHeld
          clear HC HS0
          go_wp2_with fail
          go_roundw
          case rel => exact ⟨q2, hq2, by rw [← HGG.out]; exact HG2.out, HR.out, HO.out⟩
          case measure =>
           have h1 := HR.out.plc
           have h2 := HPW.out
           omega
         ·have E10 : (((s[q2]'hlt2).toNat : Int) == 10) = false := by simpa using (show ¬ ((s[q2]'hlt2).toNat : Int) = 10 by omega)
          have E10b : (((s[q2]'hlt2).toNat : Int) != 10) = true := by simp [bne, E10]
          have HGG : Hid (gapAt s true q2 = gapAt s true (q2 + 1)) := gapAt_in s q2 hlt2 (fun e => h10b (by rw [e]; rfl))
          have HH := Lib.hid h10b
          clear h10b
          go_upto_region 5 with fail
          have HC : Hid (∀ w', Below wr.heap.size wr w' → w'.cell? ⟨g, 0, none⟩ = some (.string s) ∧ w'.cell? ⟨g, 1, none⟩ = some (.int .i64 (q2 : Int)) ∧ w'.cell? ⟨g, 2, none⟩ = some ov ∧ w'.cell? ⟨g, 3, none⟩ = some dv) := fun w' hw' => by
           have h9 : w'.heap[g]? = some (.cells #[.string s, .int .i64 (q2 : Int), ov, dv] 114 (0, 0)) := by rw [hw'.block g HR.out.lt]; exact HR.out
           exact Rs3.cells (p := q2) h9
          have HS0 : Hid (Below wr.heap.size wr wr.drew) := (Below.refl _ _).drew
          replace HO : Hid (Only g w wr.drew) := HO.out.trans (Only.drew g wr)
          replace HR : Hid (Rs3 wr.drew g s q2 ov dv) := HR.out
          refine wp_region_noPanic ?_
          refine wp_region_held_drew (S := Below wr.heap.size wr) (by kernel_rfl) HS0.out (fun hHeld => ?_)
          generalize wr.drew = X2 at HS0 HO HR hHeld ⊢
          refine qts [0, 1, 2, 3, 4, 5, 6, 7, 8, 9, 10, 11, 12, 13, 14, 15, 16, 17, 18, 19, 20, 21] hHeld ?_
          iterate 2 (refine qtc (v := Value.pointer (some ⟨g, 0, none⟩)) rfl rfl (fun w' hw' => ?_) ?_; (focus (go_simp)); simp only [zt,zs,zz,Act.put,zi,zy,zx])
          (refine qtc (v := Value.pointer (some ⟨g, 1, none⟩)) rfl rfl (fun w' hw' => ?_) ?_; (focus (go_simp)); simp only [zt,zs,zz,Act.put,zi,zy,zx])
          (refine qtc (v := Value.int .i64 (q2 : Int)) rfl rfl (fun w' hw' => ?_) ?_; (focus (obtain ⟨d0, d1, d2, d3⟩ := HC.out w' hw'; go_simp)); simp only [zt,zs,zz,Act.put,zi,zy,zx])
          iterate 3 (refine qtc (v := Value.pointer (some ⟨g, 0, none⟩)) rfl rfl (fun w' hw' => ?_) ?_; (focus (go_simp)); simp only [zt,zs,zz,Act.put,zi,zy,zx])
          (refine qtc (v := Value.string s) rfl rfl (fun w' hw' => ?_) ?_; (focus (obtain ⟨d0, d1, d2, d3⟩ := HC.out w' hw'; go_simp)); simp only [zt,zs,zz,Act.put,zi,zy,zx])
          (refine qtc (v := Value.int .i64 (s.size : Int)) rfl rfl (fun w' hw' => ?_) ?_; (focus (go_simp)); simp only [zt,zs,zz,Act.put,zi,zy,zx])
          iterate 2 (refine qtc (v := Value.bool true) rfl rfl (fun w' hw' => ?_) ?_; (focus (go_simp)); simp only [zt,zs,zz,Act.put,zi,zy,zx])
          iterate 3 (refine qtc (v := Value.pointer (some ⟨g, 0, none⟩)) rfl rfl (fun w' hw' => ?_) ?_; (focus (go_simp)); simp only [zt,zs,zz,Act.put,zi,zy,zx])
          (refine qtc (v := Value.string s) rfl rfl (fun w' hw' => ?_) ?_; (focus (obtain ⟨d0, d1, d2, d3⟩ := HC.out w' hw'; go_simp)); simp only [zt,zs,zz,Act.put,zi,zy,zx])
          iterate 2 (refine qtc (v := Value.pointer (some ⟨g, 0, none⟩)) rfl rfl (fun w' hw' => ?_) ?_; (focus (go_simp)); simp only [zt,zs,zz,Act.put,zi,zy,zx])
          (refine qtc (v := Value.pointer (some ⟨g, 1, none⟩)) rfl rfl (fun w' hw' => ?_) ?_; (focus (go_simp)); simp only [zt,zs,zz,Act.put,zi,zy,zx])
          (refine qtc (v := Value.int .i64 (q2 : Int)) rfl rfl (fun w' hw' => ?_) ?_; (focus (obtain ⟨d0, d1, d2, d3⟩ := HC.out w' hw'; go_simp)); simp only [zt,zs,zz,Act.put,zi,zy,zx])
          (refine qtc (v := Value.int .u8 ((s[q2]'hlt2).toNat : Int)) rfl rfl (fun w' hw' => ?_) ?_; (focus (go_simp)); simp only [zt,zs,zz,Act.put,zi,zy,zx])
          iterate 2 (refine qtc (v := Value.bool true) rfl rfl (fun w' hw' => ?_) ?_; (focus (go_simp)); simp only [zt,zs,zz,Act.put,zi,zy,zx])
          refine qtn ?_
          simp only [zt,zs,zz,Act.put,zi,zy,zx,qzl,qzn,qza,Nat.reduceAdd,Nat.reduceSub]
          refine wpAnyH_done (by kernel_rfl) ?_ _
          refine NoPanic.normal ?_
          clear hHeld
          clear HC HS0
          have d1 := HR.out.cells.2.1
          have fz := HR.out.frozen 1
          have HR1 := Lib.hid (HR.out.setP (q2 + 1))
          have HO1 := Lib.hid (HO.out.trans (Only.set g 1 (.int .i64 ((q2 + 1 : Nat) : Int)) X2))
          have e9 := wrap_succ q2 (by omega)
          have hpl := HR1.out.plc
          have HPL := Lib.hid hpl
          clear hpl HR HO
          go_wp2_with fail
          go_roundw
          case rel => exact ⟨q2 + 1, by omega, by omega, by rw [← HGG.out]; exact HG2.out, HR1.out, HO1.out⟩
          case measure =>
           have h1 := HPL.out
           push_cast at h1
           have h2 := HPW2.out
           omega
        ·have q3 : decide ((q2 : Int) < (s.size : Int)) = false := decide_eq_false (by omega)
         have hqe : q2 = s.size := by omega
         have HGG : Hid (gapAt s true q2 = gapAt s false q2) := by show _ = _; rw [gapAt_end s true q2 hqe, gapAt_end s false q2 hqe]
         have hne : q ≠ q2 := by omega
         clear hqe
         go_upto_region 5 with fail
         have HC : Hid (∀ w', Below wr.heap.size wr w' → w'.cell? ⟨g, 0, none⟩ = some (.string s) ∧ w'.cell? ⟨g, 1, none⟩ = some (.int .i64 (q2 : Int)) ∧ w'.cell? ⟨g, 2, none⟩ = some ov ∧ w'.cell? ⟨g, 3, none⟩ = some dv) := fun w' hw' => by
          have h9 : w'.heap[g]? = some (.cells #[.string s, .int .i64 (q2 : Int), ov, dv] 114 (0, 0)) := by rw [hw'.block g HR.out.lt]; exact HR.out
          exact Rs3.cells (p := q2) h9
         have HS0 : Hid (Below wr.heap.size wr wr.drew) := (Below.refl _ _).drew
         replace HO : Hid (Only g w wr.drew) := HO.out.trans (Only.drew g wr)
         replace HR : Hid (Rs3 wr.drew g s q2 ov dv) := HR.out
         refine wp_region_noPanic ?_
         refine wp_region_held_drew (S := Below wr.heap.size wr) (by kernel_rfl) HS0.out (fun hHeld => ?_)
         generalize wr.drew = X2 at HS0 HO HR hHeld ⊢
         refine qts [0, 1, 2, 3, 4, 5, 6, 7, 8, 9, 10, 11, 12, 13, 14, 15, 16, 17, 18, 19, 20, 21] hHeld ?_
         iterate 2 (refine qtc (v := Value.pointer (some ⟨g, 0, none⟩)) rfl rfl (fun w' hw' => ?_) ?_; (focus (go_simp)); simp only [zt,zs,zz,Act.put,zi,zy,zx])
         (refine qtc (v := Value.pointer (some ⟨g, 1, none⟩)) rfl rfl (fun w' hw' => ?_) ?_; (focus (go_simp)); simp only [zt,zs,zz,Act.put,zi,zy,zx])
         (refine qtc (v := Value.int .i64 (q2 : Int)) rfl rfl (fun w' hw' => ?_) ?_; (focus (obtain ⟨d0, d1, d2, d3⟩ := HC.out w' hw'; go_simp)); simp only [zt,zs,zz,Act.put,zi,zy,zx])
         iterate 3 (refine qtc (v := Value.pointer (some ⟨g, 0, none⟩)) rfl rfl (fun w' hw' => ?_) ?_; (focus (go_simp)); simp only [zt,zs,zz,Act.put,zi,zy,zx])
         (refine qtc (v := Value.string s) rfl rfl (fun w' hw' => ?_) ?_; (focus (obtain ⟨d0, d1, d2, d3⟩ := HC.out w' hw'; go_simp)); simp only [zt,zs,zz,Act.put,zi,zy,zx])
         (refine qtc (v := Value.int .i64 (s.size : Int)) rfl rfl (fun w' hw' => ?_) ?_; (focus (go_simp)); simp only [zt,zs,zz,Act.put,zi,zy,zx])
         iterate 2 (refine qtc (v := Value.bool false) rfl rfl (fun w' hw' => ?_) ?_; (focus (go_simp)); simp only [zt,zs,zz,Act.put,zi,zy,zx])
         iterate 10 (refine qtz rfl rfl ?_; simp only [zt,zs,zz,Act.put,zi,zy,zx])
         (refine qtc (v := Value.bool false) rfl rfl (fun w' hw' => ?_) ?_; (focus (go_simp)); simp only [zt,zs,zz,Act.put,zi,zy,zx])
         refine qtn ?_
         simp only [zt,zs,zz,Act.put,zi,zy,zx,qzl,qzn,qza,Nat.reduceAdd,Nat.reduceSub]
         refine wpAnyH_done (by kernel_rfl) ?_ _
         refine NoPanic.normal ?_
         clear hHeld
         clear HC HS0
         go_wp2_with fail
         go_roundw
         case rel => exact ⟨q2, hq2, by rw [← HGG.out]; exact HG2.out, HR.out, HO.out⟩
         case measure =>
          have h1 := HR.out.plc
          have h2 := HPW.out
          omega
      ·skip
       have E32 : ((c.toNat : Int) == 32) = false := by simpa using (show ¬ (c.toNat : Int) = 32 by omega)
       have E9 : ((c.toNat : Int) == 9) = false := by simpa using (show ¬ (c.toNat : Int) = 9 by omega)
       have E10 : ((c.toNat : Int) == 10) = false := by simpa using (show ¬ (c.toNat : Int) = 10 by omega)
       have E59 : ((c.toNat : Int) == 59) = false := by simpa using (show ¬ (c.toNat : Int) = 59 by omega)
       have HSE : Hid (gapAt s false q = q) := gapAt_stop s q hlt (by
        rw [← hc]
        rintro (e | e | e)
        ·exact h32 (by rw [e]; rfl)
        ·exact h9 (by rw [e]; rfl)
        ·exact h10 (by rw [e]; rfl)) (by rw [← hc]; exact fun e => h59 (by rw [e]; rfl))
       have HCC := Lib.hid hc
       clear hc h32 h9 h10 h59
       have HFIN : Hid (RetSkip g s p ov dv w (.returned (.tuple #[])) X1) := ⟨rfl, by rw [← HG.out, HSE.out]; exact HR.out, HO.out, by rw [← HG.out, HSE.out]; exact hq⟩
       go_wp2_with fail
       refine bodyPost_ret (results_none rfl _ _ _) rfl ?_
       exact HFIN.out
  ·have q1 : decide ((q : Int) < (s.size : Int)) = false := decide_eq_false (by omega)
   have hqe : q = s.size := by omega
   have HSE : Hid (gapAt s false q = q) := gapAt_end s false q hqe
   clear hqe
   go_upto_region 0 with fail
   have HC : Hid (∀ w', Below wr.heap.size wr w' → w'.cell? ⟨g, 0, none⟩ = some (.string s) ∧ w'.cell? ⟨g, 1, none⟩ = some (.int .i64 (q : Int)) ∧ w'.cell? ⟨g, 2, none⟩ = some ov ∧ w'.cell? ⟨g, 3, none⟩ = some dv) := fun w' hw' => by
    have h9 : w'.heap[g]? = some (.cells #[.string s, .int .i64 (q : Int), ov, dv] 114 (0, 0)) := by rw [hw'.block g HR.out.lt]; exact HR.out
    exact Rs3.cells (p := q) h9
   have HS0 : Hid (Below wr.heap.size wr wr.drew) := (Below.refl _ _).drew
   replace HO : Hid (Only g w wr.drew) := HO.out.trans (Only.drew g wr)
   replace HR : Hid (Rs3 wr.drew g s q ov dv) := HR.out
   refine wp_region_noPanic ?_
   refine wp_region_held_drew (S := Below wr.heap.size wr) (by kernel_rfl) HS0.out (fun hHeld => ?_)
   generalize wr.drew = X0 at HS0 HO HR hHeld ⊢
   refine qts [0, 1, 2, 3, 4, 5, 6, 7, 8, 9] hHeld ?_
   iterate 2 (refine qtc (v := Value.pointer (some ⟨g, 0, none⟩)) rfl rfl (fun w' hw' => ?_) ?_; (focus (go_simp)); simp only [zt,zs,zz,Act.put,zi,zy,zx])
   (refine qtc (v := Value.pointer (some ⟨g, 1, none⟩)) rfl rfl (fun w' hw' => ?_) ?_; (focus (go_simp)); simp only [zt,zs,zz,Act.put,zi,zy,zx])
   (refine qtc (v := Value.int .i64 (q : Int)) rfl rfl (fun w' hw' => ?_) ?_; (focus (obtain ⟨d0, d1, d2, d3⟩ := HC.out w' hw'; go_simp)); simp only [zt,zs,zz,Act.put,zi,zy,zx])
   iterate 3 (refine qtc (v := Value.pointer (some ⟨g, 0, none⟩)) rfl rfl (fun w' hw' => ?_) ?_; (focus (go_simp)); simp only [zt,zs,zz,Act.put,zi,zy,zx])
   (refine qtc (v := Value.string s) rfl rfl (fun w' hw' => ?_) ?_; (focus (obtain ⟨d0, d1, d2, d3⟩ := HC.out w' hw'; go_simp)); simp only [zt,zs,zz,Act.put,zi,zy,zx])
   (refine qtc (v := Value.int .i64 (s.size : Int)) rfl rfl (fun w' hw' => ?_) ?_; (focus (go_simp)); simp only [zt,zs,zz,Act.put,zi,zy,zx])
   (refine qtc (v := Value.bool false) rfl rfl (fun w' hw' => ?_) ?_; (focus (go_simp)); simp only [zt,zs,zz,Act.put,zi,zy,zx])
   refine qtn ?_
   simp only [zt,zs,zz,Act.put,zi,zy,zx,qzl,qzn,qza,Nat.reduceAdd,Nat.reduceSub]
   refine wpAnyH_done (by kernel_rfl) ?_ _
   refine NoPanic.normal ?_
   clear hHeld
   clear HC HS0
   have HFIN : Hid (RetSkip g s p ov dv w (.returned (.tuple #[])) X0) := ⟨rfl, by rw [← HG.out, HSE.out]; exact HR.out, HO.out, by rw [← HG.out, HSE.out]; exact hq⟩
   go_wp2_with fail
   refine bodyPost_ret (results_none rfl _ _ _) rfl ?_
   exact HFIN.out
end Go.Proofs.Ytecljchifebljaa
namespace Go.Proofs.Ytecljchifebljaa
open Go.RowKit Go.BigM
/-- A datum into what is open; quotes are ended by it. -/
def putS : Dt → List En → List Dt → List En × List Dt
 | d, [], out => ([], out ++ [d])
 | d, e :: es, out => if e.q = true then putS (e.add d).dt es out else (e.add d :: es, out)
def stk (es : List En) (out : List Dt) : List En := es ++ [⟨0, false, out⟩]
theorem stk_len {es : List En} {out : List Dt} {e : En} {r : List En} (h : e :: r = stk es out) : r.length = es.length := by
 have := congrArg List.length h
 simp [stk] at this
 exact this
theorem stk_inj {x : En} {es : List En} {out : List Dt} {e : En} {r : List En} (h : e :: r = stk (x :: es) out) : e = x ∧ r = stk es out := by
 simp only [stk, List.cons_append, List.cons.injEq] at h
 exact h
theorem rd_put (s : List UInt8) : ∀ (es : List En) (out : List Dt) (d : Dt) (n p : Nat) (e : En) (r : List En) (R : Rs), e :: r = stk es out → rd s n (.put d) p e r = some R →
  ∃ m e' r', e' :: r' = stk (putS d es out).1 (putS d es out).2 ∧ rd s m .next p e' r' = some R
 | [], out, d, n, p, e, r, R, hs, h => by
  cases n with
  | zero => cases h
  | succ n =>
   simp only [stk, List.nil_append, List.cons.injEq] at hs
   obtain ⟨rfl, rfl⟩ := hs
   unfold rd at h
   rw [if_neg (by simp)] at h
   exact ⟨n, ⟨0, false, out ++ [d]⟩, [], rfl, h⟩
 | x :: es, out, d, n, p, e, r, R, hs, h => by
  obtain ⟨rfl, rfl⟩ := stk_inj hs
  cases n with
  | zero => cases h
  | succ n =>
   unfold rd at h
   unfold putS
   split at h
   ·rename_i hq
    rw [if_pos hq]
    cases hr : stk es out with
    | nil => simp [stk] at hr
    | cons f r' =>
     rw [hr] at h
     exact rd_put s es out _ n p f r' R hr.symm h
   ·rename_i hq
    rw [if_neg hq]
    exact ⟨n, _, _, rfl, h⟩
/-- What comes of what begins at p. -/
def nxt (s : ByteArray) (p : Nat) (b : UInt8) (es : List En) (out : List Dt) : Int × Nat × List En × List Dt :=
 if b = 40 ∨ b = 39 then (if es.length = 60 then (6, p, es, out) else (0, p + 1, ⟨p, b == 39, if (b == 39) = true then [.mk 3 qT [] [] p] else []⟩ :: es, out))
 else if b = 41 then (match es with
  | [] => (4, p, [], out)
  | e :: r => if e.q = true then (4, p, e :: r, out) else (0, p + 1, (putS e.dt r out).1, (putS e.dt r out).2))
 else match tokOf (s.data.toList.drop p) with
  | none => (3, p, es, out)
  | some (k, t, m) => (0, p + m, (putS (.mk k t [] [] p) es out).1, (putS (.mk k t [] [] p) es out).2)
theorem rd_next {s : ByteArray} {n p0 p : Nat} {es : List En} {out : List Dt} {e : En} {r : List En} {R : Rs} {b : UInt8} (hs : e :: r = stk es out) (hp : p0 + gapOf false (s.data.toList.drop p0) = p) (hb : s.data.toList[p]? = some b) (h : rd s.data.toList n .next p0 e r = some R) :
  ((nxt s p b es out).1 ≠ 0 → R = .err (nxt s p b es out).1 p) ∧ ((nxt s p b es out).1 = 0 → ∃ m e' r', e' :: r' = stk (nxt s p b es out).2.2.1 (nxt s p b es out).2.2.2 ∧ rd s.data.toList m .next (nxt s p b es out).2.1 e' r' = some R) := by
 have hl := stk_len hs
 cases n with
 | zero => cases h
 | succ n =>
  unfold rd at h
  rw [hp, hb] at h
  simp only [] at h
  unfold nxt
  split at h
  ·rename_i h1
   rw [if_pos h1]
   cases n with
   | zero => cases h
   | succ n =>
    unfold rd at h
    rw [hb] at h
    simp only [hl] at h
    split at h
    ·rename_i h2
     rw [if_pos h2]
     injection h with h
     exact ⟨fun _ => h.symm, fun h => absurd h (by simp)⟩
    ·rename_i h2
     rw [if_neg h2]
     refine ⟨fun h => absurd rfl h, fun _ => ⟨n, _, _, ?_, h⟩⟩
     rw [hs]; rfl
  ·rename_i h1
   rw [if_neg h1]
   split at h
   ·rename_i h2
    rw [if_pos h2]
    cases n with
    | zero => cases h
    | succ n =>
     unfold rd at h
     cases es with
     | nil =>
      simp only [stk, List.nil_append, List.cons.injEq] at hs
      obtain ⟨rfl, rfl⟩ := hs
      injection h with h
      exact ⟨fun _ => h.symm, fun h => absurd h (by simp)⟩
     | cons x es =>
      obtain ⟨rfl, rfl⟩ := stk_inj hs
      cases hr : stk es out with
      | nil => simp [stk] at hr
      | cons f r' =>
       rw [hr] at h
       simp only [] at h ⊢
       split at h
       ·rename_i h3
        rw [if_pos h3]
        injection h with h
        exact ⟨fun _ => h.symm, fun h => absurd h (by simp)⟩
       ·rename_i h3
        rw [if_neg h3]
        exact ⟨fun h => absurd rfl h, fun _ => rd_put _ es out _ n _ f r' R hr.symm h⟩
   ·rename_i h2
    rw [if_neg h2]
    cases n with
    | zero => cases h
    | succ n =>
     unfold rd at h
     split at h
     ·rename_i h3
      rw [h3]
      injection h with h
      exact ⟨fun _ => h.symm, fun h => absurd h (by simp)⟩
     ·rename_i k t m h3
      rw [h3]
      exact ⟨fun h => absurd rfl h, fun _ => rd_put _ es out _ n _ e r R hs h⟩
theorem rd_over {s : ByteArray} {n p0 p : Nat} {es : List En} {out : List Dt} {e : En} {r : List En} {R : Rs} (hs : e :: r = stk es out) (hp : p0 + gapOf false (s.data.toList.drop p0) = p) (hb : s.data.toList[p]? = none) (h : rd s.data.toList n .next p0 e r = some R) :
  R = if 0 < es.length then .err 5 p else .ok out := by
 have hl := stk_len hs
 cases n with
 | zero => cases h
 | succ n =>
  unfold rd at h
  rw [hp, hb] at h
  simp only [] at h
  cases n with
  | zero => cases h
  | succ n =>
   unfold rd at h
   rw [hl] at h
   cases es with
   | nil =>
    simp only [stk, List.nil_append, List.cons.injEq] at hs
    obtain ⟨rfl, rfl⟩ := hs
    simp at h
    simp [h]
   | cons x es =>
    simp at h
    simp [h]
/-- No list is longer than what was read. -/
def Bnd (es : List En) (out : List Dt) (p : Nat) : Prop := (∀ x ∈ es, x.ds.length ≤ p) ∧ out.length ≤ p ∧ es.length ≤ 60
theorem putS_bnd : ∀ (es : List En) (out : List Dt) (d : Dt) (p : Nat), Bnd es out p → Bnd (putS d es out).1 (putS d es out).2 (p + 1)
 | [], out, d, p, h => by
  obtain ⟨h1, h2, h3⟩ := h
  refine ⟨fun x hx => absurd hx (by simp [putS]), by simp [putS]; omega, by simp [putS]⟩
 | e :: es, out, d, p, h => by
  obtain ⟨h1, h2, h3⟩ := h
  simp only [List.length_cons] at h3
  unfold putS
  split
  ·exact putS_bnd es out _ p ⟨fun x hx => h1 x (List.mem_cons_of_mem _ hx), h2, by omega⟩
  ·refine ⟨fun x hx => ?_, by simp; omega, by simp; omega⟩
   rcases List.mem_cons.1 hx with rfl | hx
   ·have := h1 e (by simp)
    simp [En.add]; omega
   ·have := h1 x (List.mem_cons_of_mem _ hx)
    omega
theorem Bnd.more {es : List En} {out : List Dt} {p q : Nat} (h : Bnd es out p) (hq : p ≤ q) : Bnd es out q := ⟨fun x hx => Nat.le_trans (h.1 x hx) hq, Nat.le_trans h.2.1 hq, h.2.2⟩
theorem nxt_bnd {s : ByteArray} {p : Nat} {b : UInt8} {es : List En} {out : List Dt} (hp : p < s.size) (hB : Bnd es out p) (h : (nxt s p b es out).1 = 0) :
  p < (nxt s p b es out).2.1 ∧ (nxt s p b es out).2.1 ≤ s.size ∧ Bnd (nxt s p b es out).2.2.1 (nxt s p b es out).2.2.2 (nxt s p b es out).2.1 := by
 unfold nxt at h ⊢
 split at h
 ·rename_i h1
  rw [if_pos h1]
  split at h
  ·cases h
  ·rename_i h2
   rw [if_neg h2]
   refine ⟨by simp, by simp; omega, fun x hx => ?_, by have := hB.2.1; simp; omega, by have := hB.2.2; simp; omega⟩
   rcases List.mem_cons.1 hx with rfl | hx
   ·show List.length (if _ then _ else _) ≤ _
    split <;> simp
   ·have := hB.1 x hx
    simp; omega
 ·rename_i h1
  rw [if_neg h1]
  split at h
  ·rename_i h2
   rw [if_pos h2]
   split at h
   ·cases h
   ·split at h
    ·cases h
    ·rename_i h3
     simp only [h3]
     refine ⟨by simp, by simp; omega, ?_⟩
     exact putS_bnd _ _ _ _ ⟨fun x hx => hB.1 x (List.mem_cons_of_mem _ hx), hB.2.1, by have := hB.2.2; simp at this; omega⟩
  ·rename_i h2
   rw [if_neg h2]
   split at h
   ·cases h
   ·rename_i k t m h3
    have m1 := tokOf_pos h3
    have m2 := tokOf_le h3
    rw [List.length_drop, ← Lib.size_eq] at m2
    refine ⟨by simp; omega, by simp; omega, ?_⟩
    exact (putS_bnd _ _ _ _ hB).more (by simp; omega)
end Go.Proofs.Ytecljchifebljaa
namespace Go.Proofs.Ytecljchifebljaa
open Go.RowKit Go.BigM
theorem OwnS.more {D D' : Nat → Prop} {B : Nat} {w : World} {v : Value} {ds : List Dt} {d : Dt} {cs : Array Value} (h : OwnS D B w v ds) (hD : ∀ x, D x → D' x) (hD' : ∀ x, D' x → v.ownBlock ≠ some x) (h5 : cs.size = 5) (hd : Dt.At D' w d cs) :
  ∃ xs, w.ownsRow B 29 5 v ds.length xs ∧ ∀ v' w9, w9.ownsRow B 29 5 v' (ds.length + 1) (xs ++ cs.toList) → w.grownBy w9 v.ownBlock → OwnS D' B w9 v' (ds ++ [d]) := by
 obtain ⟨xs, hown, hx⟩ := h
 refine ⟨xs, hown, fun v' w9 h9 hg => ⟨xs ++ cs.toList, by simpa using h9, fun j hj => ?_⟩⟩
 have hk : Keeps D' w w9 := Keeps.of_grown hg (fun g hs e => hD' g hs e.symm)
 have hl : xs.length = ds.length * 5 := hown.1
 by_cases hlt : j < ds.length
 ·obtain ⟨c, c5, c1, c2⟩ := hx j hlt
  refine ⟨c, c5, fun i hi => ?_, ?_⟩
  ·rw [List.getElem?_append_left (by omega)]; exact c1 i hi
  ·rw [List.getElem_append_left hlt]; exact Dt.At.keeps hk _ _ (Dt.At.mono hD _ _ c2)
 ·have hj' : j = ds.length := by simp at hj; omega
  subst hj'
  refine ⟨cs, h5, fun i hi => ?_, ?_⟩
  ·rw [List.getElem?_append_right (by omega), show 5 * ds.length + i - xs.length = i by omega]; simp
  ·rw [List.getElem_append_right (by omega)]
   simp
   exact Dt.At.keeps hk _ _ hd
/-- What is open, the innermost first, as the cells xs. -/
def Opens (D : Nat → Prop) (B N : Nat) (w : World) (xs : List Value) : List En → (Nat → Prop) → Prop
 | [], _ => True
 | e :: r, U => ∃ lv, (xs[r.length * 3]? = some (.bool e.q) ∧ xs[r.length * 3 + 1]? = some (.int .i64 e.pl) ∧ xs[r.length * 3 + 2]? = some lv) ∧
   OwnS D B w lv (if e.q = true then [] else e.ds) ∧ (e.q = true → e.ds = [.mk 3 qT [] [] e.pl]) ∧ (∀ x, lv.ownBlock = some x → x < N ∧ ¬ U x) ∧ Opens D B N w xs r (fun x => U x ∨ lv.ownBlock = some x)
theorem Opens.move {D : Nat → Prop} {B N : Nat} {w w' : World} {xs xs' : List Value} (hD : ∀ x, D x → B ≤ x ∧ x < N) : ∀ (es : List En) (U : Nat → Prop), Opens D B N w xs es U → (∀ i, i < es.length * 3 → xs'[i]? = xs[i]?) → (∀ x, B ≤ x → x < N → (D x ∨ ¬ U x) → w'.heap[x]? = w.heap[x]?) → Opens D B N w' xs' es U
 | [], _, _, _, _ => trivial
 | e :: r, U, h, hx, hw => by
  obtain ⟨lv, ⟨c0, c1, c2⟩, ho, hq, hu, hr⟩ := h
  have hl : (e :: r).length * 3 = r.length * 3 + 3 := by simp; omega
  rw [hl] at hx
  refine ⟨lv, ⟨by rw [hx _ (by omega)]; exact c0, by rw [hx _ (by omega)]; exact c1, by rw [hx _ (by omega)]; exact c2⟩, ?_, hq, hu, ?_⟩
  ·refine ho.keep (fun x c hxo hh => ?_) (fun x c T fz hDx hh _ => ⟨fz, ?_⟩)
   ·rw [hw x (ho.lt hxo).1 (hu x hxo).1 (.inr (hu x hxo).2)]; exact hh
   ·rw [hw x (hD x hDx).1 (hD x hDx).2 (.inl hDx)]; exact hh
  ·exact Opens.move hD r _ hr (fun i hi => hx i (by omega)) (fun x h1 h2 hxd => hw x h1 h2 (hxd.imp id (fun hn hU => hn (.inl hU))))
theorem Opens.fresh {D D' : Nat → Prop} {B N N' : Nat} {w : World} {xs : List Value} (hD : ∀ x, D x → D' x) (hN : N ≤ N') : ∀ (es : List En) (U U' : Nat → Prop), Opens D B N w xs es U → (∀ x, x < N → U' x → U x) → Opens D' B N' w xs es U'
 | [], _, _, _, _ => trivial
 | e :: r, U, U', h, hU => by
  obtain ⟨lv, hc, ho, hq, hu, hr⟩ := h
  exact ⟨lv, hc, ho.mono hD, hq, fun x hx => ⟨by have := (hu x hx).1; omega, fun hx' => (hu x hx).2 (hU x (hu x hx).1 hx')⟩, Opens.fresh hD hN r _ _ hr (fun x hx hxu => hxu.imp (hU x hx) id)⟩
/-- The reader at g: its place, what is open, what is done; D: the blocks of data that are done; all of it lies below N. -/
def RdAt (D : Nat → Prop) (N : Nat) (w : World) (g : Nat) (s : ByteArray) (p : Nat) (es : List En) (out : List Dt) : Prop :=
 ∃ ov dv xs, Rs3 w g s p ov dv ∧ w.ownsRow (g + 1) 137 3 ov es.length xs ∧ OwnS D (g + 1) w dv out ∧ (∀ x, D x → g + 1 ≤ x ∧ x < N) ∧ (N ≤ w.heap.size) ∧
  (∀ x, ov.ownBlock = some x → x < N ∧ ¬ D x) ∧ (∀ x, dv.ownBlock = some x → x < N ∧ ¬ D x ∧ ov.ownBlock ≠ some x) ∧ Opens D (g + 1) N w xs es (fun x => (D x ∨ ov.ownBlock = some x) ∨ dv.ownBlock = some x)
theorem ownsRow_keep {w w' : World} {B T sz n : Nat} {v : Value} {xs : List Value} (h : w.ownsRow B T sz v n xs) (hk : ∀ x, v.ownBlock = some x → w'.heap[x]? = w.heap[x]?) : w'.ownsRow B T sz v n xs := by
 refine ⟨h.1, ?_⟩
 rcases h.2 with h | ⟨g1, cap, cur, rfl, hB, hh, r⟩
 ·exact .inl h
 ·exact .inr ⟨g1, cap, cur, rfl, hB, by rw [hk g1 rfl]; exact hh, r⟩
theorem RdAt.keep {D : Nat → Prop} {N : Nat} {w w' : World} {g : Nat} {s : ByteArray} {p : Nat} {es : List En} {out : List Dt} (h : RdAt D N w g s p es out) (hk : ∀ x, g ≤ x → x < N → w'.heap[x]? = w.heap[x]?) (hgN : g < N) (hs : N ≤ w'.heap.size) : RdAt D N w' g s p es out := by
 obtain ⟨ov, dv, xs, hR, ho, hd, hD, hN, h1, h2, hE⟩ := h
 refine ⟨ov, dv, xs, ?_, ownsRow_keep ho (fun x hx => hk x (by have := (ho.lt x hx).1; omega) (h1 x hx).1), ?_, hD, hs, h1, h2, Opens.move hD _ _ hE (fun _ _ => rfl) (fun x a b _ => hk x (by omega) b)⟩
 ·unfold Rs3 at hR ⊢
  rw [hk g (Nat.le_refl _) hgN]; exact hR
 ·refine hd.keep (fun x c hx hh => ?_) (fun x c T fz hDx hh _ => ⟨fz, ?_⟩)
  ·rw [hk x (by have := (hd.lt hx).1; omega) (h2 x hx).1]; exact hh
  ·rw [hk x (by have := (hD x hDx).1; omega) (hD x hDx).2]; exact hh
theorem RdAt.wide {D : Nat → Prop} {N N' : Nat} {w : World} {g : Nat} {s : ByteArray} {p : Nat} {es : List En} {out : List Dt} (h : RdAt D N w g s p es out) (hN : N ≤ N') (hs : N' ≤ w.heap.size) : RdAt D N' w g s p es out := by
 obtain ⟨ov, dv, xs, hR, ho, hd, hD, _, h1, h2, hE⟩ := h
 exact ⟨ov, dv, xs, hR, ho, hd, fun x hx => ⟨(hD x hx).1, by have := (hD x hx).2; omega⟩, hs, fun x hx => ⟨by have := (h1 x hx).1; omega, (h1 x hx).2⟩, fun x hx => ⟨by have := (h2 x hx).1; omega, (h2 x hx).2⟩, Opens.fresh (fun _ h => h) hN _ _ _ hE (fun _ _ h => h)⟩
/-- Only the reader's own block turned. -/
theorem RdAt.own {D : Nat → Prop} {N : Nat} {w w' : World} {g : Nat} {ov dv : Value} {xs : List Value} {es : List En} {out : List Dt}
  (ho : w.ownsRow (g + 1) 137 3 ov es.length xs) (hd : OwnS D (g + 1) w dv out) (hD : ∀ x, D x → g + 1 ≤ x ∧ x < N) (h1 : ∀ x, ov.ownBlock = some x → x < N ∧ ¬ D x) (h2 : ∀ x, dv.ownBlock = some x → x < N ∧ ¬ D x ∧ ov.ownBlock ≠ some x)
  (hE : Opens D (g + 1) N w xs es (fun x => (D x ∨ ov.ownBlock = some x) ∨ dv.ownBlock = some x)) {s : ByteArray} {p : Nat} (hR : Rs3 w' g s p ov dv) (hk : ∀ x, g + 1 ≤ x → x < N → w'.heap[x]? = w.heap[x]?) (hs : N ≤ w'.heap.size) : RdAt D N w' g s p es out := by
 refine ⟨ov, dv, xs, hR, ownsRow_keep ho (fun x hx => hk x (ho.lt x hx).1 (h1 x hx).1), ?_, hD, hs, h1, h2, Opens.move hD _ _ hE (fun _ _ => rfl) (fun x a b _ => hk x a b)⟩
 refine hd.keep (fun x c hx hh => ?_) (fun x c T fz hDx hh _ => ⟨fz, ?_⟩)
 ·rw [hk x (hd.lt hx).1 (h2 x hx).1]; exact hh
 ·rw [hk x (hD x hDx).1 (hD x hDx).2]; exact hh
theorem RdAt.setP {D : Nat → Prop} {N : Nat} {w : World} {g : Nat} {s : ByteArray} {p : Nat} {es : List En} {out : List Dt} (h : RdAt D N w g s p es out) (q : Nat) : RdAt D N (w.setCell ⟨g, 1, none⟩ (.int .i64 (q : Int))) g s q es out := by
 obtain ⟨ov, dv, xs, hR, ho, hd, hD, hN, h1, h2, hE⟩ := h
 exact RdAt.own ho hd hD h1 h2 hE (hR.setP q) (fun x hx _ => Below.heap_setCell w _ _ x (by show x ≠ g; omega)) (by simp [World.setCell]; exact hN)
theorem RdAt.only {D : Nat → Prop} {N : Nat} {w w' : World} {g : Nat} {s : ByteArray} {p q : Nat} {es : List En} {out : List Dt} (h : RdAt D N w g s p es out) (ho : Only g w w') (hq : ∀ ov dv, Rs3 w g s p ov dv → Rs3 w' g s q ov dv) : RdAt D N w' g s q es out := by
 obtain ⟨ov, dv, xs, hR, ho', hd, hD, hN, h1, h2, hE⟩ := h
 exact RdAt.own ho' hd hD h1 h2 hE (hq _ _ hR) (fun x hx _ => ho.block x (by omega)) (by rw [ho.size]; exact hN)
theorem row_form {w : World} {B T sz n : Nat} {v : Value} {xs : List Value} (h : w.ownsRow B T sz v n xs) (hsz : 0 < sz) : ∃ ao c, v = .slice ao n c := by
 rcases h.2 with ⟨rfl, hz⟩ | ⟨g, cap, cur, rfl, _⟩
 ·have := h.1
  rw [hz] at this
  have hn : n = 0 := by
   rcases Nat.eq_zero_or_pos n with h0 | h0
   ·exact h0
   ·have := Nat.mul_pos h0 hsz; simp at *; omega
  subst hn; exact ⟨none, 0, rfl⟩
 ·exact ⟨_, _, rfl⟩
theorem RdAt.form {D : Nat → Prop} {N : Nat} {w : World} {g : Nat} {s : ByteArray} {p : Nat} {es : List En} {out : List Dt} (h : RdAt D N w g s p es out) :
  ∃ ao c bo d, Rs3 w g s p (.slice ao es.length c) (.slice bo out.length d) := by
 obtain ⟨ov, dv, xs, hR, ho, hd, hD, hN, h1, h2, hE⟩ := h
 obtain ⟨ao, c, rfl⟩ := row_form ho (by decide)
 obtain ⟨ys, hy, _⟩ := hd
 obtain ⟨bo, d, rfl⟩ := row_form hy (by decide)
 exact ⟨ao, c, bo, d, hR⟩
end Go.Proofs.Ytecljchifebljaa
