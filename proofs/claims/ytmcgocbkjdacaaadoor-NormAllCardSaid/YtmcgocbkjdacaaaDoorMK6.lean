/- Make, at choices. -/
import Derived.Test.YtmcgocbkjdacaaaDoorMK4
namespace Go.Proofs.YtmcgocbkjdacaaaDoor
open Go.RowKit Go.BigM
set_option linter.unusedVariables false
set_option linter.unusedSimpArgs false
theorem three_at {S : Nat → Prop} {w : World} {t0 t1 t2 : Et} {k0 k1 k2 : Int} {x0 x1 x2 : ByteArray} {n0 a0 n1 a1 n2 a2 : Value} {g : Nat} (hg : S g)
    (h0 : Et.At S w t0 #[.int .i64 k0, .string x0, n0, a0]) (h1 : Et.At S w t1 #[.int .i64 k1, .string x1, n1, a1]) (h2 : Et.At S w t2 #[.int .i64 k2, .string x2, n2, a2])
    (hr : w.heap[g]? = some (.cells #[.int .i64 k0, .string x0, n0, a0, .int .i64 k1, .string x1, n1, a1, .int .i64 k2, .string x2, n2, a2] 28 (0, 0))) :
    AAt S w (.slice (some ⟨g, 0, none⟩) 3 3) [t0, t1, t2] := by
  refine .inr ⟨g, 0, 3, _, (0, 0), rfl, hg, hr, ?_, Nat.le_refl _⟩
  unfold Ets.At
  refine ⟨⟨_, fun i hi => ?_, h0⟩, ?_⟩
  · match i, hi with
    | 0, _ => rfl
    | 1, _ => rfl
    | 2, _ => rfl
    | 3, _ => rfl
    | n + 4, h => exact absurd h (by omega)
  unfold Ets.At
  refine ⟨⟨_, fun i hi => ?_, h1⟩, ?_⟩
  · match i, hi with
    | 0, _ => rfl
    | 1, _ => rfl
    | 2, _ => rfl
    | 3, _ => rfl
    | n + 4, h => exact absurd h (by omega)
  unfold Ets.At
  refine ⟨⟨_, fun i hi => ?_, h2⟩, ?_⟩
  · match i, hi with
    | 0, _ => rfl
    | 1, _ => rfl
    | 2, _ => rfl
    | 3, _ => rfl
    | n + 4, h => exact absurd h (by omega)
  unfold Ets.At; trivial
set_option maxHeartbeats 8000000 in
set_option maxRecDepth 100000 in
theorem make9 (k n : Int) (pl : List Rw) (ih : ∀ r ∈ pl, MkC r) (w0 w : World) (g m : Nat) (sc : List ByteArray) (scv : Value) (P : Pre w0 w g m sc scv) (po : Option Addr) (pc : Nat) (hm : m + 2 * (1 + Rw.cnts pl) ≤ 50000) (hR : RsAt w0 po pl) (hk : I64 k) (hn : I64 n) (hq : k % 16 = 9) :
    Calls Tryd.prog 30 #[.pointer (some ⟨g, 0, none⟩), .agg #[.int .i64 k, .int .i64 n, .slice po pl.length pc], scv] w (RetMade sc g m (2 * (1 + Rw.cnts pl)) (4 * (1 + Rw.cnts pl)) w) := by
  have hb2 : Below w.heap.size w ((w.alloc (.cells #[.int .i64 k, .int .i64 n, .slice po pl.length pc] 53)).alloc (.cells Z4 28)) := ((Below.refl w.heap.size w).alloc (Nat.le_refl _) _).alloc (by simp) _
  have hz2 : ((w.alloc (.cells #[.int .i64 k, .int .i64 n, .slice po pl.length pc] 53)).alloc (.cells Z4 28)).heap[w.heap.size + 1]? = some (.cells Z4 28 (0, 0)) := by
    have h := alloc_at (w.alloc (.cells #[.int .i64 k, .int .i64 n, .slice po pl.length pc] 53)) (.cells Z4 28)
    have e : (w.alloc (.cells #[.int .i64 k, .int .i64 n, .slice po pl.length pc] 53)).heap.size = w.heap.size + 1 := by simp
    rw [e] at h; exact h
  have hs2 : ((w.alloc (.cells #[.int .i64 k, .int .i64 n, .slice po pl.length pc] 53)).alloc (.cells Z4 28)).heap.size = w.heap.size + 2 := by simp
  have hgw := P.cnt.lt
  have HB2 := Lib.hid hb2
  have HZ2 := Lib.hid hz2
  have HRW : Hid (((w.alloc (.cells #[.int .i64 k, .int .i64 n, .slice po pl.length pc] 53)).alloc (.cells Z4 28)).heap[w.heap.size]? = some (.cells #[.int .i64 k, .int .i64 n, .slice po pl.length pc] 53 (0, 0))) := (Lib.alloc_old _ _ _ (by simp)).trans (alloc_at w _)
  obtain ⟨so, sc1, rfl⟩ := P.scope.form
  have PP := Lib.hid P
  have hfew : sc.length ≤ 60000 := by have := P.few; omega
  have F0 := Lib.hid (fun w => within_is k 16 9 hk (by decide) (by decide) hq w)
  have IH := Lib.hid ih
  have HR := Lib.hid hR
  have HN := Lib.hid hn
  clear ih hb2 hz2 hq hk hn hR
  go_enter Tryd.func30, Tryd.ntmps30
  go_wp2_with fail
  generalize (w.alloc (.cells #[.int .i64 k, .int .i64 n, .slice po pl.length pc] 53)).alloc (.cells #[.int .i64 0, .string ⟨#[]⟩, .slice none 0 0, .slice none 0 0] 28) = W2 at HB2 HZ2 hs2 HRW ⊢
  have cK : W2.cell? ⟨w.heap.size, 0, none⟩ = some (.int .i64 k) := by rw [Lib.cell_of_heap HRW.out]; rfl
  have cN : W2.cell? ⟨w.heap.size, 1, none⟩ = some (.int .i64 n) := by rw [Lib.cell_of_heap HRW.out]; rfl
  refine (F0.out _).mono ?_
  rintro e w5 ⟨rfl, rfl⟩
  have P2 := Lib.hid (PP.out.below' HB2.out)
  have hbW : w.heap.size < W2.heap.size := by omega
  have hgW : g < W2.heap.size := by omega
  have hW2 : w.heap.size + 2 ≤ W2.heap.size := by omega
  have hbg : w.heap.size ≠ g := by omega
  have hbe : w.heap.size ≠ w.heap.size + 1 := by omega
  have p0 : Rw.cnts (pl.take 1) = pcn pl 0 := by have h := pcn_take pl 0; have h0 : Rw.cnts (pl.take 0) = 0 := (by simp [Rw.cnts]); rw [h0] at h; simpa using h
  have p1 : Rw.cnts (pl.take 2) = Rw.cnts (pl.take 1) + pcn pl 1 := pcn_take pl 1
  have p2 : Rw.cnts (pl.take 3) = Rw.cnts (pl.take 2) + pcn pl 2 := pcn_take pl 2
  have p3 := cnts_take_le pl 3
  have HP0 := Lib.hid (part_any k n pl IH.out w0 W2.drew g m sc _ (P2.out.below' (Below.refl _ _).drew) po pc 0 (by omega) (by omega) HR.out HN.out)
  clear cK cN F0 PP hs2
  go_upto_region 32 with fail
  refine wp_region_noPanic ?_
  refine wp_region_held_drew (S := But2 W2.heap.size g (w.heap.size + 1) W2) (by kernel_rfl) (But2.drew2 _ _ _ _) (fun hHeld => ?_)
  refine wpAnyH_take (i := 0) (v := Value.pointer (some ⟨g, 0, none⟩)) rfl (by kernel_rfl) (by kernel_rfl) (by kernel_rfl) (fun _ _ _ h => h) (Or.inl ⟨rfl, fun w' hw' => ?_⟩) hHeld ?_
  · go_simp
  simp only [List.getElem_toArray, List.getElem_cons_succ, List.getElem_cons_zero, Act.put, List.setIfInBounds_toArray, List.set_cons_zero, List.set_cons_succ]
  refine wpAnyH_take (i := 1) rfl (by kernel_rfl) (by kernel_rfl) (by kernel_rfl) (fun _ _ _ h => h) (yieldsIf_load_mid (by rfl) _ _ rfl w.heap.size 0 rfl [.int .i64 k, .int .i64 n, .slice po pl.length pc] _ (fun w' hw' => row_rangeB ((hw'.block w.heap.size hbW hbg hbe).trans HRW.out)) Tryd.underlying53 rfl info53) hHeld ?_
  simp only [List.getElem_toArray, List.getElem_cons_succ, List.getElem_cons_zero, Act.put, List.setIfInBounds_toArray, List.set_cons_zero, List.set_cons_succ]
  refine wpAnyH_take (i := 2) (v := Value.slice so sc.length sc1) rfl (by kernel_rfl) (by kernel_rfl) (by kernel_rfl) (fun _ _ _ h => h) (Or.inl ⟨rfl, fun w' hw' => ?_⟩) hHeld ?_
  · go_simp
  simp only [List.getElem_toArray, List.getElem_cons_succ, List.getElem_cons_zero, Act.put, List.setIfInBounds_toArray, List.set_cons_zero, List.set_cons_succ]
  refine wpAnyH_take (i := 4) (v := Value.pointer (some ⟨g, 0, none⟩)) rfl (by kernel_rfl) (by kernel_rfl) (by kernel_rfl) (fun _ _ _ h => h) (Or.inl ⟨rfl, fun w' hw' => ?_⟩) hHeld ?_
  · go_simp
  simp only [List.getElem_toArray, List.getElem_cons_succ, List.getElem_cons_zero, Act.put, List.setIfInBounds_toArray, List.set_cons_zero, List.set_cons_succ]
  refine wpAnyH_take (i := 5) rfl (by kernel_rfl) (by kernel_rfl) (by kernel_rfl) (fun _ _ _ h => h) (yieldsIf_load_mid (by rfl) _ _ rfl w.heap.size 0 rfl [.int .i64 k, .int .i64 n, .slice po pl.length pc] _ (fun w' hw' => row_rangeB ((hw'.block w.heap.size hbW hbg hbe).trans HRW.out)) Tryd.underlying53 rfl info53) hHeld ?_
  simp only [List.getElem_toArray, List.getElem_cons_succ, List.getElem_cons_zero, Act.put, List.setIfInBounds_toArray, List.set_cons_zero, List.set_cons_succ]
  refine wpAnyH_take (i := 6) (v := Value.slice so sc.length sc1) rfl (by kernel_rfl) (by kernel_rfl) (by kernel_rfl) (fun _ _ _ h => h) (Or.inl ⟨rfl, fun w' hw' => ?_⟩) hHeld ?_
  · go_simp
  simp only [List.getElem_toArray, List.getElem_cons_succ, List.getElem_cons_zero, Act.put, List.setIfInBounds_toArray, List.set_cons_zero, List.set_cons_succ]
  refine wpAnyH_take (i := 8) (v := Value.pointer (some ⟨g, 0, none⟩)) rfl (by kernel_rfl) (by kernel_rfl) (by kernel_rfl) (fun _ _ _ h => h) (Or.inl ⟨rfl, fun w' hw' => ?_⟩) hHeld ?_
  · go_simp
  simp only [List.getElem_toArray, List.getElem_cons_succ, List.getElem_cons_zero, Act.put, List.setIfInBounds_toArray, List.set_cons_zero, List.set_cons_succ]
  refine wpAnyH_take (i := 9) rfl (by kernel_rfl) (by kernel_rfl) (by kernel_rfl) (fun _ _ _ h => h) (yieldsIf_load_mid (by rfl) _ _ rfl w.heap.size 0 rfl [.int .i64 k, .int .i64 n, .slice po pl.length pc] _ (fun w' hw' => row_rangeB ((hw'.block w.heap.size hbW hbg hbe).trans HRW.out)) Tryd.underlying53 rfl info53) hHeld ?_
  simp only [List.getElem_toArray, List.getElem_cons_succ, List.getElem_cons_zero, Act.put, List.setIfInBounds_toArray, List.set_cons_zero, List.set_cons_succ]
  refine wpAnyH_take (i := 10) (v := Value.slice so sc.length sc1) rfl (by kernel_rfl) (by kernel_rfl) (by kernel_rfl) (fun _ _ _ h => h) (Or.inl ⟨rfl, fun w' hw' => ?_⟩) hHeld ?_
  · go_simp
  simp only [List.getElem_toArray, List.getElem_cons_succ, List.getElem_cons_zero, Act.put, List.setIfInBounds_toArray, List.set_cons_zero, List.set_cons_succ]
  refine wpAnyH_ready (rs := [3]) (by kernel_rfl) (by simp) ?_
  refine (AllReadyH.cons rfl (fun K hK => ?_) AllReadyH.nil)
  go_simp
  refine HP0.out.mono ?_
  rintro e w7 ⟨cs, t0, m0, rfl, hat0, hM0, hz0, hm0, hk0, hb0⟩
  obtain ⟨k0, x0, n0, a0, rfl, o00, o01⟩ := EAt_form hat0
  have hb0 : But W2.heap.size g W2 w7 := ((But.refl W2.heap.size g W2).drew).trans hb0
  have PA := Lib.hid (P2.out.move hb0 hk0 hM0.le)
  have HP1 := Lib.hid (part_any k n pl IH.out w0 w7 g m0 sc _ PA.out po pc 1 (by omega) (by omega) HR.out HN.out)
  have HB0 := Lib.hid hb0
  have HAT0 : Hid (Et.At (fun x => W2.heap.size ≤ x) w7 t0 #[.int .i64 k0, .string x0, n0, a0]) := hat0
  have HM0 := Lib.hid hM0
  have HO0 : Hid (n0.oneCell' = true ∧ a0.oneCell' = true) := ⟨o00, o01⟩
  have HS7 := Lib.hid (But2.of (h := w.heap.size + 1) hb0)
  clear hat0 hM0 hb0 hk0
  refine hK.out _ _ HS7.out (fun hHeld => ?_)
  clear hK K
  try simp only [List.getElem_toArray, List.getElem_cons_succ, List.getElem_cons_zero, Act.put, List.setIfInBounds_toArray, List.set_cons_zero, List.set_cons_succ]
  refine wpAnyH_ready (rs := [7]) (by kernel_rfl) (by simp) ?_
  refine (AllReadyH.cons rfl (fun K hK => ?_) AllReadyH.nil)
  go_simp
  refine HP1.out.mono ?_
  rintro e w8 ⟨cs, t1, m1, rfl, hat1, hM1, hz1, hm1, hk1, hb1⟩
  obtain ⟨k1, x1, n1, a1, rfl, o10, o11⟩ := EAt_form hat1
  have PB := Lib.hid (PA.out.move hb1 hk1 hM1.le)
  have HP2 := Lib.hid (part_any k n pl IH.out w0 w8 g m1 sc _ PB.out po pc 2 (by omega) (by omega) HR.out HN.out)
  have hsz7 := HB0.out.size
  have HB1 := Lib.hid (HB0.out.trans (hb1.mono hsz7))
  have HAT0b : Hid (Et.At (fun x => W2.heap.size ≤ x) w8 t0 #[.int .i64 k0, .string x0, n0, a0]) := Et.At.keeps (hb1.keeps fun x hx => by have : W2.heap.size ≤ x := hx; omega) _ _ HAT0.out
  have HAT1 : Hid (Et.At (fun x => W2.heap.size ≤ x) w8 t1 #[.int .i64 k1, .string x1, n1, a1]) := Et.At.mono (fun x hx => by have : w7.heap.size ≤ x := hx; omega) _ _ hat1
  have HM1 := Lib.hid hM1
  have HO1 : Hid (n1.oneCell' = true ∧ a1.oneCell' = true) := ⟨o10, o11⟩
  have HS8 := Lib.hid (But2.of (h := w.heap.size + 1) HB1.out)
  clear hat1 hM1 hb1 hk1 HAT0 PA HP0 HP1
  refine hK.out _ _ HS8.out (fun hHeld => ?_)
  clear hK K
  try simp only [List.getElem_toArray, List.getElem_cons_succ, List.getElem_cons_zero, Act.put, List.setIfInBounds_toArray, List.set_cons_zero, List.set_cons_succ]
  refine wpAnyH_ready (rs := [11]) (by kernel_rfl) (by simp) ?_
  refine (AllReadyH.cons rfl (fun K hK => ?_) AllReadyH.nil)
  go_simp
  refine HP2.out.mono ?_
  rintro e w9 ⟨cs, t2, m2, rfl, hat2, hM2, hz2, hm2, hk2, hb2⟩
  obtain ⟨k2, x2, n2, a2, rfl, o20, o21⟩ := EAt_form hat2
  have hsz8 := HB1.out.size
  have HB2w := Lib.hid (HB1.out.trans (hb2.mono hsz8))
  have HAT0c : Hid (Et.At (fun x => W2.heap.size ≤ x) w9 t0 #[.int .i64 k0, .string x0, n0, a0]) := Et.At.keeps (hb2.keeps fun x hx => by have : W2.heap.size ≤ x := hx; omega) _ _ HAT0b.out
  have HAT1c : Hid (Et.At (fun x => W2.heap.size ≤ x) w9 t1 #[.int .i64 k1, .string x1, n1, a1]) := Et.At.keeps (hb2.keeps fun x hx => by have : W2.heap.size ≤ x := hx; omega) _ _ HAT1.out
  have HAT2 : Hid (Et.At (fun x => W2.heap.size ≤ x) w9 t2 #[.int .i64 k2, .string x2, n2, a2]) := Et.At.mono (fun x hx => by have : w8.heap.size ≤ x := hx; omega) _ _ hat2
  have HML := Lib.hid ((((MadeL.nil sc m).snoc HM0.out).snoc HM1.out).snoc hM2)
  have HK2 := Lib.hid hk2
  have HO2 : Hid (n2.oneCell' = true ∧ a2.oneCell' = true) := ⟨o20, o21⟩
  have HS9 := Lib.hid (But2.of (h := w.heap.size + 1) HB2w.out)
  clear hat2 hM2 hb2 hk2 HAT0b HAT1 PB HP2 HM0 HM1
  refine hK.out _ _ HS9.out (fun hHeld => ?_)
  clear hK K
  try simp only [List.getElem_toArray, List.getElem_cons_succ, List.getElem_cons_zero, Act.put, List.setIfInBounds_toArray, List.set_cons_zero, List.set_cons_succ]
  have HBA : Hid (But W2.heap.size g W2 (w9.alloc (.cells #[.int .i64 k0, .string x0, n0, a0, .int .i64 k1, .string x1, n1, a1, .int .i64 k2, .string x2, n2, a2] 28))) := HB2w.out.alloc HB2w.out.size _
  have HSA := Lib.hid (But2.of (h := w.heap.size + 1) HBA.out)
  have n00 := HO0.out.1
  have n01 := HO0.out.2
  have n10 := HO1.out.1
  have n11 := HO1.out.2
  have n20 := HO2.out.1
  have n21 := HO2.out.2
  refine wpAnyH_ready (rs := [12]) (by kernel_rfl) (by simp) ?_
  refine (AllReadyH.cons rfl (fun K hK => ?_) AllReadyH.nil)
  go_simp
  refine hK.out _ _ HSA.out (fun hHeld => ?_)
  clear hK K
  try simp only [List.getElem_toArray, List.getElem_cons_succ, List.getElem_cons_zero, Act.put, List.setIfInBounds_toArray, List.set_cons_zero, List.set_cons_succ]
  refine wpAnyH_take (i := 13) (v := Value.agg #[.int .i64 8, .string ⟨#[]⟩, .slice none 0 0, .slice (some ⟨w9.heap.size, 0, none⟩) 3 3]) rfl (by kernel_rfl) (by kernel_rfl) (by kernel_rfl) (fun _ _ _ h => h) (Or.inl ⟨rfl, fun w' hw' => ?_⟩) hHeld ?_
  · go_simp
  simp only [List.getElem_toArray, List.getElem_cons_succ, List.getElem_cons_zero, Act.put, List.setIfInBounds_toArray, List.set_cons_zero, List.set_cons_succ]
  have hrow := alloc_at w9 (.cells #[.int .i64 k0, .string x0, n0, a0, .int .i64 k1, .string x1, n1, a1, .int .i64 k2, .string x2, n2, a2] 28)
  have hkeep : ∀ (e : Et) (cs : Array Value), Et.At (fun x => W2.heap.size ≤ x) w9 e cs → Et.At (fun x => w.heap.size + 2 ≤ x) (w9.alloc (.cells #[.int .i64 k0, .string x0, n0, a0, .int .i64 k1, .string x1, n1, a1, .int .i64 k2, .string x2, n2, a2] 28)) e cs := fun e cs h => Et.At.mono (fun x hx => by have : W2.heap.size ≤ x := hx; omega) _ _ (Et.At.keeps (Keeps.of_below ((Below.refl _ _).alloc (Nat.le_refl _) _)) _ _ h)
  have haat : AAt (fun x => w.heap.size + 2 ≤ x) (w9.alloc (.cells #[.int .i64 k0, .string x0, n0, a0, .int .i64 k1, .string x1, n1, a1, .int .i64 k2, .string x2, n2, a2] 28)) (.slice (some ⟨w9.heap.size, 0, none⟩) 3 3) [t0, t1, t2] := three_at (by have := HB2w.out.size; omega) (hkeep _ _ HAT0c.out) (hkeep _ _ HAT1c.out) (hkeep _ _ HAT2.out) hrow
  have hz : (w9.alloc (.cells #[.int .i64 k0, .string x0, n0, a0, .int .i64 k1, .string x1, n1, a1, .int .i64 k2, .string x2, n2, a2] 28)).heap[w.heap.size + 1]? = some (.cells Z4 28 (0, 0)) := (HBA.out.block _ (by omega) (by omega)).trans HZ2.out
  have hmk : Mk (w9.alloc (.cells #[.int .i64 k0, .string x0, n0, a0, .int .i64 k1, .string x1, n1, a1, .int .i64 k2, .string x2, n2, a2] 28)) g m2 := HK2.out.below ((Below.refl _ _).alloc (Nat.le_refl _) _)
  have hMM : Made sc m m2 (.mk 8 ⟨#[]⟩ [] [t0, t1, t2]) := MadeL.node (sc := sc) (ns := []) (b := m) (by rw [List.append_nil]; exact HML.out) (Nat.le_refl _) (nms_self m).symm (by omega) (by simp) (by decide) (by decide) (by simp [shapeB, textB, namesB, partsB, Lib.toList_data])
  obtain ⟨hone, hfin⟩ := made_exit (c := 2 * (1 + Rw.cnts pl)) (s := 4 * (1 + Rw.cnts pl)) (sc := sc) (ns := []) (m := m) (a := 0) (w := w) hz (.inl ⟨rfl, rfl⟩) haat hMM (by simp only [Et.sizes]; omega) (by omega) hmk ((But.of HB2.out).trans (HBA.out.mono (by omega))) hgw
  have HF := Lib.hid hfin
  have HZ := Lib.hid hz
  have HSB : Hid (But2 W2.heap.size g (w.heap.size + 1) W2 ((w9.alloc (.cells #[.int .i64 k0, .string x0, n0, a0, .int .i64 k1, .string x1, n1, a1, .int .i64 k2, .string x2, n2, a2] 28)).setRow (w.heap.size + 1) #[.int .i64 8, .string ⟨#[]⟩, .slice none 0 0, .slice (some ⟨w9.heap.size, 0, none⟩) 3 3])) := HSA.out.trans ⟨rfl, rfl, rfl, by simp, fun x hx hxg hxb => setRow_other _ _ x _ (by omega)⟩
  clear hrow hkeep haat hz hmk hMM hfin
  refine wpAnyH_ready (rs := [14]) (by kernel_rfl) (by simp) ?_
  refine (AllReadyH.cons rfl (fun K hK => ?_) AllReadyH.nil)
  refine wp_store_row 28 _ _ rfl (w.heap.size + 1) #[.int .i64 8, .string ⟨#[]⟩, .slice none 0 0, .slice (some ⟨w9.heap.size, 0, none⟩) 3 3] rfl rfl 28 Z4 HZ.out info28 rfl hone ?_
  refine hK.out _ _ HSB.out (fun hHeld => ?_)
  clear hK K
  try simp only [List.getElem_toArray, List.getElem_cons_succ, List.getElem_cons_zero, Act.put, List.setIfInBounds_toArray, List.set_cons_zero, List.set_cons_succ]
  refine wpAnyH_done (by kernel_rfl) ?_ _
  refine NoPanic.normal ?_
  clear hHeld
  go_wp2_with fail
  refine bodyPost_ret (results_cell_row rfl _ _ (w.heap.size + 1) 28 #[.int .i64 8, .string ⟨#[]⟩, .slice none 0 0, .slice (some ⟨w9.heap.size, 0, none⟩) 3 3] (0, 0) _ rfl (setRow_heap _ _ _ _ 28 _ HZ.out) Tryd.underlying28 rfl info28) rfl ?_
  exact HF.out
end Go.Proofs.YtmcgocbkjdacaaaDoor
