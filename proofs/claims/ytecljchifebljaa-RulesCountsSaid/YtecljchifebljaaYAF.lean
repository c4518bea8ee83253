/- The document's reader: put: its walk. -/
import Derived.Test.YtecljchifebljaaYAA
import Derived.Test.YtecljchifebljaaYAC
import Derived.Test.YtecljchifebljaaYAE
set_option linter.unusedVariables false
set_option linter.unusedSimpArgs false
namespace Go.Proofs.Ytecljchifebljaa
open Go.RowKit Go.BigM
def oln (g : Nat) (w : World) : Nat := match w.cell? ⟨g, 2, none⟩ with | some (.slice _ n _) => n | _ => 0
/-- What holds at the loop's head. -/
def PInv (N g : Nat) (s : ByteArray) (p : Nat) (R : List En × List Dt) (P0 : Nat) (w wr : World) : Prop := ∃ (D : Nat → Prop) (es : List En) (out : List Dt) (d : Dt) (k : Int) (t : ByteArray) (mo : Option Addr) (mn mc : Nat) (lo : Option Addr) (ln lc : Nat) (pl : Int),
 PI D N g s p es out d #[.int .i64 k, .string t, .slice mo mn mc, .slice lo ln lc, .int .i64 pl] w wr ∧ putS d es out = R ∧ Bnd es out P0
theorem agr_facts {g b N : Nat} {X : World} {v u : Value} {k : Int} {t : ByteArray} {mv lv : Value} {pl : Int} (h1 : X.cell? ⟨g, 2, none⟩ = some v) (h2 : X.cell? ⟨b, 2, none⟩ = some u) (h3 : Boxed N #[.int .i64 k, .string t, mv, lv, .int .i64 pl] X) :
  ∀ w' : World, (∀ x, x = g ∨ x = b ∨ x = N → w'.heap[x]? = X.heap[x]?) → (w'.cell? ⟨g, 2, none⟩ = some v ∧ w'.cell? ⟨b, 2, none⟩ = some u) ∧ w'.rangeAt N 0 [.int .i64 k, .string t, mv, lv, .int .i64 pl] := by
 intro w' h
 refine ⟨⟨?_, ?_⟩, box_range ?_⟩
 ·rw [← h1]; simp only [World.cell?]; rw [h g (.inl rfl)]
 ·rw [← h2]; simp only [World.cell?]; rw [h b (.inr (.inl rfl))]
 ·unfold Boxed at h3 ⊢; rw [h N (.inr (.inr rfl))]; exact h3
set_option maxHeartbeats 16000000 in
set_option maxRecDepth 100000 in
theorem put3_any {D : Nat → Prop} (g : Nat) (s : ByteArray) (p : Nat) (es : List En) (out : List Dt) (d : Dt) (k : Int) (t : ByteArray) (mo : Option Addr) (mn mc : Nat) (lo : Option Addr) (ln lc : Nat) (pl : Int) (P0 : Nat) (w : World)
  (h : RdAt D w.heap.size w g s p es out) (hgN : g < w.heap.size) (hd : Dt.At D w d #[.int .i64 k, .string t, .slice mo mn mc, .slice lo ln lc, .int .i64 pl]) (hB : Bnd es out P0) (hP : P0 ≤ 9000) :
  Calls Try.prog 84 #[.pointer (some ⟨g, 0, none⟩), .agg #[.int .i64 k, .string t, .slice mo mn mc, .slice lo ln lc, .int .i64 pl]] w (RetPut g s p (putS d es out) w) := by
 obtain ⟨R, hRR⟩ : ∃ R, R = putS d es out := ⟨_, rfl⟩
 rw [← hRR]
 have HST0 : Hid (PInv w.heap.size g s p R P0 w (w.alloc (.cells #[.int .i64 k, .string t, .slice mo mn mc, .slice lo ln lc, .int .i64 pl] 29))) := ⟨D, es, out, d, k, t, mo, mn, mc, lo, ln, lc, pl, PI.start h hgN hd, hRR.symm, hB⟩
 clear h hd hB hRR
 go_enter Try.func84, Try.ntmps84
 go_wp2_with fail
 go_loopw [] (fun wr => PInv w.heap.size g s p R P0 w wr) (fun wr => oln g wr)
 case atStart => exact HST0.out
 case round =>
  clear HST0
  obtain ⟨D1, es1, out1, d1, k1, t1, mo1, mn1, mc1, lo1, ln1, lc1, pl1, hPI, hEQ, hBd⟩ := hrel
  have HPI := Lib.hid hPI
  have HEQ := Lib.hid hEQ
  have HOL : Hid (out1.length ≤ 9000) := by have := hBd.2.1; show _ ≤ _; omega
  have HBD := Lib.hid hBd
  have z1 : (#[.int .i64 k1, .string t1, .slice mo1 mn1 mc1, .slice lo1 ln1 lc1, .int .i64 pl1] : Array Value).all (·.oneCell') = true := by simp [Value.oneCell']
  obtain ⟨ao2, c2, bo2, dd2, hform⟩ := hPI.rd.form
  have hc2 := hform.cells.2.2.1
  clear hPI hEQ hBd hform
  cases es1 with
  | nil =>
   go_upto_region 7 with fail
   clear hc2
   have HEQ : Hid ((([] : List En), out1 ++ [d1]) = R) := HEQ.out
   obtain ⟨WD, hWD⟩ : ∃ x, x = wr.drew := ⟨_, rfl⟩
   have hPD := HPI.out.below hgN (Below.refl wr.heap.size wr).drew
   rw [← hWD] at hPD
   obtain ⟨ao, c, xs, c1, c2, x2, hown, hB8, HNX⟩ := outp_step hPD.rd hgN hPD.size hPD.dat hPD.box hPD.low rfl
   have hx0 : Boxed w.heap.size #[.int .i64 k1, .string t1, .slice mo1 mn1 mc1, .slice lo1 ln1 lc1, .int .i64 pl1] WD := hPD.box
   clear hPD
   refine wp_region_noPanic ?_
   refine wp_region_held_drew (S := Boxed w.heap.size #[.int .i64 k1, .string t1, .slice mo1 mn1 mc1, .slice lo1 ln1 lc1, .int .i64 pl1]) (by kernel_rfl) (by rw [← hWD]; exact hx0) (fun hHeld => ?_)
   rw [← hWD] at hHeld ⊢
   have HC1 := Lib.hid c1
   have HC2 : Hid ((WD.alloc (.cells #[.int .i64 0, .string ⟨#[]⟩, .slice none 0 0, .slice none 0 0, .int .i64 0] 29)).cell? ⟨g, 3, none⟩ = some (.slice ao out1.length c)) := c2
   have HX2 := Lib.hid x2
   have HO := Lib.hid hown
   have HN := Lib.hid HNX
   obtain ⟨on, hon⟩ : ∃ on, on = out1.length := ⟨_, rfl⟩
   rw [← hon] at HC1 HC2 HO HN
   have hon9 : on ≤ 9000 := by rw [hon]; exact HOL.out
   have HON := Lib.hid hon
   clear c1 c2 x2 hown HNX hWD hx0 hon HPI
   refine qts [0, 1, 2] hHeld ?_
   iterate 3 (refine qtc (v := ?_) rfl rfl (fun w' hw' => ?_) ?_; rotate_left; (focus (go_simp; try with_reducible rfl)); simp only [zt,zs,zz,Act.put,zi,zy,zx])
   refine qtn ?_
   simp only [zt,zs,zz,Act.put,zi,zy,zx,qzl,qzn,qza,Nat.reduceAdd,Nat.reduceSub]
   refine wpAnyH_take (i := 4) rfl (by kernel_rfl) (by kernel_rfl) (by kernel_rfl) (fun _ _ _ h => h) (yieldsIf_load_mid (by rfl) _ _ rfl w.heap.size 0 rfl [.int .i64 k1, .string t1, .slice mo1 mn1 mc1, .slice lo1 ln1 lc1, .int .i64 pl1] _ (fun w' hw' => box_range hw') Try.underlying29 rfl info40) hHeld ?_
   simp only [zt,zs,zz,Act.put,zi,zy,zx]
   refine wpAnyH_ready (rs := [3, 6]) (by kernel_rfl) (by simp) ?_
   refine (AllReadyH.cons rfl (fun K hK => ?_) (AllReadyH.cons rfl (fun K hK => ?_) AllReadyH.nil))
   ·skip
    have cl := HC1.out
    go_simp
    refine hK.out _ _ hHeld (fun hHeld => ?_)
    clear cl
    clear hK K
    try simp only [zt,zs,zz,Act.put,zi,zy,zx]
    refine qtk (i := 5) (v := ?v3) rfl rfl (fun w' hw' => ?h3) hHeld ?r3
    case h3 => go_simp; try with_reducible rfl
    simp only [zt,zs,zz,Act.put,zi,zy,zx]
    refine wpAnyH_ready (rs := [6]) (by kernel_rfl) (by simp) ?_
    refine (AllReadyH.cons rfl (fun K hK => ?_) AllReadyH.nil)
    go_simp
    refine hK.out _ _ HX2.out (fun hHeld => ?_)
    clear hK K
    try simp only [zt,zs,zz,Act.put,zi,zy,zx]
    refine wpAnyH_ready (rs := [7]) (by kernel_rfl) (by simp) ?_
    refine (AllReadyH.cons rfl (fun K hK => ?_) AllReadyH.nil)
    rw [if_pos (by rfl)]
    refine wp_app (Operand.tmp 68) (Operand.tmp 71) rfl (g + 1) (.slice ao on c) on xs rfl HO.out WD.heap.size 1 rfl Z5.toList rfl (fun i u hu => ?_) (by simp [Value.oneCell', Z5]) (by omega) hB8 ?_
    ·have q : (WD.alloc (.cells Z5 29)).cell? ⟨WD.heap.size, i, none⟩ = some u := by rw [Lib.cell_of_heap (alloc_at WD (.cells Z5 29))]; simpa using hu
     exact q
    intro v' w9 hown9 hg9 hv9
    obtain ⟨g', c', rfl, hc', x9, HA, HB⟩ := HN.out v' w9 hown9 hg9 hv9
    clear hown9 hg9 hv9
    refine hK.out _ _ x9 (fun hHeld => ?_)
    clear x9
    clear hK K
    try simp only [zt,zs,zz,Act.put,zi,zy,zx]
    refine qts [8, 10, 11] hHeld ?_
    (refine qtc (v := Value.pointer (some ⟨g', on * 5, none⟩)) rfl rfl (fun w' hw' => ?_) ?_; (focus (go_simp; intro hq; omega)); simp only [zt,zs,zz,Act.put,zi,zy,zx])
    iterate 2 (refine qtc (v := ?_) rfl rfl (fun w' hw' => ?_) ?_; rotate_left; (focus (go_simp; try with_reducible rfl)); simp only [zt,zs,zz,Act.put,zi,zy,zx])
    refine qtn ?_
    simp only [zt,zs,zz,Act.put,zi,zy,zx,qzl,qzn,qza,Nat.reduceAdd,Nat.reduceSub]
    refine wpAnyH_ready (rs := [9, 12]) (by kernel_rfl) (by simp) ?_
    refine (AllReadyH.cons rfl (fun K hK => ?_) (AllReadyH.cons rfl (fun K hK => ?_) AllReadyH.nil))
    ·skip
     obtain ⟨th, xS, cc, cf, xT, hd⟩ := HA
     have HXT := Lib.hid xT
     have HD := Lib.hid hd
     rw [if_pos (by rfl)]
     refine wp_store_mid 29 _ _ rfl g' (on * 5) #[.int .i64 k1, .string t1, .slice mo1 mn1 mc1, .slice lo1 ln1 lc1, .int .i64 pl1] rfl rfl th info40 z1 ?_
     refine hK.out _ _ xS (fun hHeld => ?_)
     clear xS th xT hd HB
     clear hK K
     try simp only [zt,zs,zz,Act.put,zi,zy,zx]
     refine wpAnyH_ready (rs := [12]) (by kernel_rfl) (by simp) ?_
     refine (AllReadyH.cons rfl (fun K hK => ?_) AllReadyH.nil)
     go_simp
     refine hK.out _ _ HXT.out (fun hHeld => ?_)
     clear cc cf
     clear hK K
     try simp only [zt,zs,zz,Act.put,zi,zy,zx]
     refine wpAnyH_done (by kernel_rfl) ?_ _
     refine NoPanic.normal ?_
     go_wp2_with fail
     refine bodyPost_ret (results_none rfl _ _ _) rfl ?_
     have q := HD.out
     rw [HEQ.out] at q
     exact q
    ·skip
     obtain ⟨cc, cf, xS, th, xT, hd⟩ := HB
     have HXT := Lib.hid xT
     have HD := Lib.hid hd
     have HTH := Lib.hid th
     go_simp
     refine hK.out _ _ xS (fun hHeld => ?_)
     clear xS th xT hd HA cc cf
     clear hK K
     try simp only [zt,zs,zz,Act.put,zi,zy,zx]
     refine wpAnyH_ready (rs := [9]) (by kernel_rfl) (by simp) ?_
     refine (AllReadyH.cons rfl (fun K hK => ?_) AllReadyH.nil)
     rw [if_pos (by rfl)]
     refine wp_store_mid 29 _ _ rfl g' (on * 5) #[.int .i64 k1, .string t1, .slice mo1 mn1 mc1, .slice lo1 ln1 lc1, .int .i64 pl1] rfl rfl HTH.out info40 z1 ?_
     refine hK.out _ _ HXT.out (fun hHeld => ?_)
     clear hK K
     try simp only [zt,zs,zz,Act.put,zi,zy,zx]
     refine wpAnyH_done (by kernel_rfl) ?_ _
     refine NoPanic.normal ?_
     go_wp2_with fail
     refine bodyPost_ret (results_none rfl _ _ _) rfl ?_
     have q := HD.out
     rw [HEQ.out] at q
     exact q
   ·skip
    go_simp
    refine hK.out _ _ HX2.out (fun hHeld => ?_)
    clear hK K
    try simp only [zt,zs,zz,Act.put,zi,zy,zx]
    refine wpAnyH_ready (rs := [3]) (by kernel_rfl) (by simp) ?_
    refine (AllReadyH.cons rfl (fun K hK => ?_) AllReadyH.nil)
    have cl := HC2.out
    go_simp
    refine hK.out _ _ hHeld (fun hHeld => ?_)
    clear cl
    clear hK K
    try simp only [zt,zs,zz,Act.put,zi,zy,zx]
    refine qtk (i := 5) (v := ?v7) rfl rfl (fun w' hw' => ?h7) hHeld ?r7
    case h7 => go_simp; try with_reducible rfl
    simp only [zt,zs,zz,Act.put,zi,zy,zx]
    refine wpAnyH_ready (rs := [7]) (by kernel_rfl) (by simp) ?_
    refine (AllReadyH.cons rfl (fun K hK => ?_) AllReadyH.nil)
    rw [if_pos (by rfl)]
    refine wp_app (Operand.tmp 68) (Operand.tmp 71) rfl (g + 1) (.slice ao on c) on xs rfl HO.out WD.heap.size 1 rfl Z5.toList rfl (fun i u hu => ?_) (by simp [Value.oneCell', Z5]) (by omega) hB8 ?_
    ·have q : (WD.alloc (.cells Z5 29)).cell? ⟨WD.heap.size, i, none⟩ = some u := by rw [Lib.cell_of_heap (alloc_at WD (.cells Z5 29))]; simpa using hu
     exact q
    intro v' w9 hown9 hg9 hv9
    obtain ⟨g', c', rfl, hc', x9, HA, HB⟩ := HN.out v' w9 hown9 hg9 hv9
    clear hown9 hg9 hv9
    refine hK.out _ _ x9 (fun hHeld => ?_)
    clear x9
    clear hK K
    try simp only [zt,zs,zz,Act.put,zi,zy,zx]
    refine qts [8, 10, 11] hHeld ?_
    (refine qtc (v := Value.pointer (some ⟨g', on * 5, none⟩)) rfl rfl (fun w' hw' => ?_) ?_; (focus (go_simp; intro hq; omega)); simp only [zt,zs,zz,Act.put,zi,zy,zx])
    iterate 2 (refine qtc (v := ?_) rfl rfl (fun w' hw' => ?_) ?_; rotate_left; (focus (go_simp; try with_reducible rfl)); simp only [zt,zs,zz,Act.put,zi,zy,zx])
    refine qtn ?_
    simp only [zt,zs,zz,Act.put,zi,zy,zx,qzl,qzn,qza,Nat.reduceAdd,Nat.reduceSub]
    refine wpAnyH_ready (rs := [9, 12]) (by kernel_rfl) (by simp) ?_
    refine (AllReadyH.cons rfl (fun K hK => ?_) (AllReadyH.cons rfl (fun K hK => ?_) AllReadyH.nil))
    ·skip
     obtain ⟨th, xS, cc, cf, xT, hd⟩ := HA
     have HXT := Lib.hid xT
     have HD := Lib.hid hd
     rw [if_pos (by rfl)]
     refine wp_store_mid 29 _ _ rfl g' (on * 5) #[.int .i64 k1, .string t1, .slice mo1 mn1 mc1, .slice lo1 ln1 lc1, .int .i64 pl1] rfl rfl th info40 z1 ?_
     refine hK.out _ _ xS (fun hHeld => ?_)
     clear xS th xT hd HB
     clear hK K
     try simp only [zt,zs,zz,Act.put,zi,zy,zx]
     refine wpAnyH_ready (rs := [12]) (by kernel_rfl) (by simp) ?_
     refine (AllReadyH.cons rfl (fun K hK => ?_) AllReadyH.nil)
     go_simp
     refine hK.out _ _ HXT.out (fun hHeld => ?_)
     clear cc cf
     clear hK K
     try simp only [zt,zs,zz,Act.put,zi,zy,zx]
     refine wpAnyH_done (by kernel_rfl) ?_ _
     refine NoPanic.normal ?_
     go_wp2_with fail
     refine bodyPost_ret (results_none rfl _ _ _) rfl ?_
     have q := HD.out
     rw [HEQ.out] at q
     exact q
    ·skip
     obtain ⟨cc, cf, xS, th, xT, hd⟩ := HB
     have HXT := Lib.hid xT
     have HD := Lib.hid hd
     have HTH := Lib.hid th
     go_simp
     refine hK.out _ _ xS (fun hHeld => ?_)
     clear xS th xT hd HA cc cf
     clear hK K
     try simp only [zt,zs,zz,Act.put,zi,zy,zx]
     refine wpAnyH_ready (rs := [9]) (by kernel_rfl) (by simp) ?_
     refine (AllReadyH.cons rfl (fun K hK => ?_) AllReadyH.nil)
     rw [if_pos (by rfl)]
     refine wp_store_mid 29 _ _ rfl g' (on * 5) #[.int .i64 k1, .string t1, .slice mo1 mn1 mc1, .slice lo1 ln1 lc1, .int .i64 pl1] rfl rfl HTH.out info40 z1 ?_
     refine hK.out _ _ HXT.out (fun hHeld => ?_)
     clear hK K
     try simp only [zt,zs,zz,Act.put,zi,zy,zx]
     refine wpAnyH_done (by kernel_rfl) ?_ _
     refine NoPanic.normal ?_
     go_wp2_with fail
     refine bodyPost_ret (results_none rfl _ _ _) rfl ?_
     have q := HD.out
     rw [HEQ.out] at q
     exact q
  | cons e r =>
   obtain ⟨og, c, lo2, ln2, lc2, b2, hnc, hcm, hogl, ⟨b3, b4, b5⟩, HX⟩ := HPI.out.top hgN rfl
   rw [hc2] at b2
   injection b2 with b2
   injection b2 with b2 b2b b2c
   subst b2 b2c
   obtain ⟨rn, hrn⟩ : ∃ rn, rn = r.length := ⟨_, rfl⟩
   obtain ⟨eq9, heq9⟩ : ∃ b, b = e.q := ⟨_, rfl⟩
   obtain ⟨ep, hep⟩ : ∃ b, b = e.pl := ⟨_, rfl⟩
   simp only [List.length_cons, ← hrn, ← heq9, ← hep] at hc2 b3 b4 b5 HX hnc
   have hrn9 : rn ≤ 100 := by have := HBD.out.2.2; simp only [List.length_cons] at this; omega
   have HX := Lib.hid HX
   have HLN : Hid (oln g wr = rn + 1) := by show _ = _; unfold oln; rw [hc2]
   have HRN := Lib.hid hrn
   have HEP := Lib.hid hep
   have HEQ9 := Lib.hid heq9
   have hgl : g < wr.heap.size := by have := HPI.out.size; omega
   have hNl : w.heap.size < wr.heap.size := by have := HPI.out.size; omega
   clear hrn heq9 hep b2b
   go_upto_region 2 with fail
   have HC : Hid (∀ w', Below wr.heap.size wr w' → w'.cell? ⟨g, 2, none⟩ = some (.slice (some ⟨og, 0, none⟩) (rn + 1) c2) ∧ w'.cell? ⟨og, rn * 3, none⟩ = some (.bool eq9) ∧ w'.cell? ⟨og, rn * 3 + 1, none⟩ = some (.int .i64 ep) ∧ w'.cell? ⟨og, rn * 3 + 2, none⟩ = some (.slice lo2 ln2 lc2)) := fun w' hw' => ⟨(hw'.cell hgl).trans hc2, (hw'.cell hogl).trans b3, (hw'.cell hogl).trans b4, (hw'.cell hogl).trans b5⟩
   have HS0 : Hid (Below wr.heap.size wr wr.drew) := (Below.refl _ _).drew
   have HSZ : Hid (wr.drew.heap.size = wr.heap.size) := rfl
   refine wp_region_noPanic ?_
   refine wp_region_held_drew (S := Below wr.heap.size wr) (by kernel_rfl) HS0.out (fun hHeld => ?_)
   clear b3 b4 b5 hc2
   generalize wr.drew = XD at HS0 HSZ hHeld ⊢
   refine qts [0, 1, 2, 3, 4, 5, 6, 7, 8, 9, 10, 11] hHeld ?_
   iterate 9 (refine qtc (v := ?_) rfl rfl (fun w' hw' => ?_) ?_; rotate_left; (focus ((obtain ⟨q1, q2, q3, q4⟩ := HC.out w' hw'; go_simp); try with_reducible rfl)); simp only [zt,zs,zz,Act.put,zi,zy,zx])
   (refine qtc (v := Value.int .i64 (rn : Int)) rfl rfl (fun w' hw' => ?_) ?_; (focus (go_simp; rw [IntKind.wrap_i64]; omega)); simp only [zt,zs,zz,Act.put,zi,zy,zx])
   (refine qtc (v := Value.pointer (some ⟨og, rn * 3, none⟩)) rfl rfl (fun w' hw' => ?_) ?_; (focus (go_simp; intro hq; omega)); simp only [zt,zs,zz,Act.put,zi,zy,zx])
   (refine qtc (v := ?_) rfl rfl (fun w' hw' => ?_) ?_; rotate_left; (focus ((obtain ⟨q1, q2, q3, q4⟩ := HC.out w' hw'; go_simp); try with_reducible rfl)); simp only [zt,zs,zz,Act.put,zi,zy,zx])
   refine qtn ?_
   simp only [zt,zs,zz,Act.put,zi,zy,zx,qzl,qzn,qza,Nat.reduceAdd,Nat.reduceSub]
   refine wpAnyH_ready (rs := [12]) (by kernel_rfl) (by simp) ?_
   refine (AllReadyH.cons rfl (fun K hK => ?_) AllReadyH.nil)
   go_simp
   refine hK.out _ _ (hHeld.alloc (by rw [HSZ.out]; exact Nat.le_refl _) _) (fun hHeld => ?_)
   clear hK K
   try simp only [zt,zs,zz,Act.put,zi,zy,zx]
   refine wpAnyH_ready (rs := [13]) (by kernel_rfl) (by simp) ?_
   refine (AllReadyH.cons rfl (fun K hK => ?_) AllReadyH.nil)
   go_simp
   refine hK.out _ _ (HS0.out.alloc (by rw [HSZ.out]; exact Nat.le_refl _) _) (fun hHeld => ?_)
   clear hK K
   try simp only [zt,zs,zz,Act.put,zi,zy,zx]
   refine wpAnyH_done (by kernel_rfl) ?_ _
   refine NoPanic.normal ?_
   clear hHeld
   rw [HSZ.out]
   have hbx := HS0.out.alloc (by rw [HSZ.out]; exact Nat.le_refl _) (.cells #[.bool eq9, .int .i64 ep, .slice lo2 ln2 lc2] 137)
   have hnx := alloc_at XD (.cells #[.bool eq9, .int .i64 ep, .slice lo2 ln2 lc2] 137)
   have hsx : (XD.alloc (.cells #[.bool eq9, .int .i64 ep, .slice lo2 ln2 lc2] 137)).heap.size = wr.heap.size + 1 := by simp [HSZ.out]
   rw [HSZ.out] at hnx
   generalize XD.alloc (.cells #[.bool eq9, .int .i64 ep, .slice lo2 ln2 lc2] 137) = X at hbx hnx hsx ⊢
   have k0 : X.cell? ⟨wr.heap.size, 0, none⟩ = some (.bool eq9) := by rw [Lib.cell_of_heap hnx]; rfl
   have k1 : X.cell? ⟨wr.heap.size, 1, none⟩ = some (.int .i64 ep) := by rw [Lib.cell_of_heap hnx]; rfl
   have k2 : X.cell? ⟨wr.heap.size, 2, none⟩ = some (.slice lo2 ln2 lc2) := by rw [Lib.cell_of_heap hnx]; rfl
   have hxsz : X.drew.heap.size = wr.heap.size + 1 := hsx
   have hxlt : wr.heap.size < X.drew.heap.size := by omega
   obtain ⟨⟨f1, f2, f3⟩, HT, HF⟩ := HX.out X.drew hbx.drew hxlt
   have HXS := Lib.hid hxsz
   have HF1 := Lib.hid f1
   have HF2 := Lib.hid f2
   have HF3 := Lib.hid f3
   have HK1 := Lib.hid k1
   have HK2 := Lib.hid k2
   have HBX := Lib.hid hbx
   clear hbx hnx hsx hxsz hxlt f1 f2 f3 k1 k2 HC HS0 HSZ HX
   cases eq9 with
   | false =>
    obtain ⟨hln, xs, hown, hB8, HNX⟩ := HF rfl
    have HO := Lib.hid hown
    have HN := Lib.hid HNX
    have hln9 : ln2 ≤ 9000 := by have := HBD.out.1 e (by simp); omega
    clear HF HT hown HNX hln
    go_upto_region 4 with fail
    have HA := Lib.hid (agr_facts (g := g) (b := wr.heap.size) (N := w.heap.size) (X := X.drew) HF1.out HK2.out HF3.out)
    have HS1 : Hid (∀ x, x = g ∨ x = wr.heap.size ∨ x = w.heap.size → X.drew.heap[x]? = X.drew.heap[x]?) := fun _ _ => rfl
    refine wp_region_noPanic ?_
    refine wp_region_held_drew (S := fun w' => ∀ x, x = g ∨ x = wr.heap.size ∨ x = w.heap.size → w'.heap[x]? = X.drew.heap[x]?) (by kernel_rfl) HS1.out (fun hHeld => ?_)
    generalize X.drew = XE at HA HF1 HF2 HF3 HXS HO HN hB8 hHeld ⊢
    refine qts [0, 1, 2, 3, 4, 5, 6, 7, 8, 9, 10, 11] hHeld ?_
    iterate 9 (refine qtc (v := ?_) rfl rfl (fun w' hw' => ?_) ?_; rotate_left; (focus ((obtain ⟨⟨q1, q2⟩, _⟩ := HA.out w' hw'; go_simp); try with_reducible rfl)); simp only [zt,zs,zz,Act.put,zi,zy,zx])
    (refine qtc (v := Value.int .i64 (rn : Int)) rfl rfl (fun w' hw' => ?_) ?_; (focus (go_simp; rw [IntKind.wrap_i64]; omega)); simp only [zt,zs,zz,Act.put,zi,zy,zx])
    iterate 2 (refine qtc (v := ?_) rfl rfl (fun w' hw' => ?_) ?_; rotate_left; (focus ((obtain ⟨⟨q1, q2⟩, _⟩ := HA.out w' hw'; go_simp); try with_reducible rfl)); simp only [zt,zs,zz,Act.put,zi,zy,zx])
    refine qtn ?_
    simp only [zt,zs,zz,Act.put,zi,zy,zx,qzl,qzn,qza,Nat.reduceAdd,Nat.reduceSub]
    refine wpAnyH_take (i := 12) rfl (by kernel_rfl) (by kernel_rfl) (by kernel_rfl) (fun _ _ _ h => h) (yieldsIf_load_mid (by rfl) _ _ rfl w.heap.size 0 rfl [.int .i64 k1, .string t1, .slice mo1 mn1 mc1, .slice lo1 ln1 lc1, .int .i64 pl1] _ (fun w' hw' => (HA.out w' hw').2) Try.underlying29 rfl info40) hHeld ?_
    simp only [zt,zs,zz,Act.put,zi,zy,zx]
    refine wpAnyH_ready (rs := [13]) (by kernel_rfl) (by simp) ?_
    refine (AllReadyH.cons rfl (fun K hK => ?_) AllReadyH.nil)
    go_simp
    refine hK.out _ _ (fun x hx => (Lib.alloc_old XE _ x (by have := HXS.out; rcases hx with rfl | rfl | rfl <;> omega)).trans (hHeld x hx)) (fun hHeld => ?_)
    clear hK K
    try simp only [zt,zs,zz,Act.put,zi,zy,zx]
    refine wpAnyH_ready (rs := [14]) (by kernel_rfl) (by simp) ?_
    refine (AllReadyH.cons rfl (fun K hK => ?_) AllReadyH.nil)
    rw [if_pos (by rfl)]
    refine wp_app (Operand.tmp 37) (Operand.tmp 39) rfl (g + 1) (.slice lo2 ln2 lc2) ln2 xs rfl HO.out XE.heap.size 1 rfl [.int .i64 k1, .string t1, .slice mo1 mn1 mc1, .slice lo1 ln1 lc1, .int .i64 pl1] rfl (fun i u hu => ?_) (by simp [Value.oneCell']) (by omega) hB8 ?_
    ·have q : (XE.alloc (.cells #[.int .i64 k1, .string t1, .slice mo1 mn1 mc1, .slice lo1 ln1 lc1, .int .i64 pl1] 29)).cell? ⟨XE.heap.size, i, none⟩ = some u := by rw [Lib.cell_of_heap (alloc_at XE (.cells #[.int .i64 k1, .string t1, .slice mo1 mn1 mc1, .slice lo1 ln1 lc1, .int .i64 pl1] 29))]; simpa using hu
     exact q
    intro v' w9 hown9 hg9 hv9
    obtain ⟨o3, cc, cf, o4, hret⟩ := HN.out v' w9 hown9 hg9 hv9
    obtain ⟨vo, vc, rfl⟩ := row_form hown9 (by decide)
    have HO4 := Lib.hid o4
    have HRT := Lib.hid hret
    clear hown9 hg9 hv9 o4 hret
    refine hK.out _ _ o3 (fun hHeld => ?_)
    clear o3
    clear hK K
    try simp only [zt,zs,zz,Act.put,zi,zy,zx]
    refine qtk (i := 15) (v := Value.pointer (some ⟨og, rn * 3, none⟩)) rfl rfl (fun w' hw' => ?_) hHeld ?_
    ·go_simp; intro hq; omega
    simp only [zt,zs,zz,Act.put,zi,zy,zx]
    refine qtk (i := 16) (v := ?v36) rfl rfl (fun w' hw' => ?h36) hHeld ?r36
    case h36 => go_simp; try with_reducible rfl
    simp only [zt,zs,zz,Act.put,zi,zy,zx]
    refine wpAnyH_ready (rs := [17]) (by kernel_rfl) (by simp) ?_
    refine (AllReadyH.cons rfl (fun K hK => ?_) AllReadyH.nil)
    go_simp
    refine hK.out _ _ HO4.out (fun hHeld => ?_)
    clear hK K
    try simp only [zt,zs,zz,Act.put,zi,zy,zx]
    refine wpAnyH_done (by kernel_rfl) ?_ _
    refine NoPanic.normal ?_
    clear hHeld
    go_wp2_with fail
    refine bodyPost_ret (results_none rfl _ _ _) rfl ?_
    have q := HRT.out
    have q2 : (e.add d1 :: r, out1) = R := by rw [← HEQ.out]; unfold putS; rw [if_neg (by rw [← HEQ9.out]; decide)]
    rw [q2] at q
    exact q
   | true =>
    obtain ⟨_, hbox5, D2, hPI2⟩ := HT rfl
    have HB5 := Lib.hid hbox5
    have HP2 := Lib.hid hPI2
    clear HF HT hbox5 hPI2
    go_upto_region 5 with fail
    refine wp_region_noPanic ?_
    refine wp_region_held_drew (S := fun _ => True) (by kernel_rfl) trivial (fun hHeld => ?_)
    have HK1 : Hid (X.drew.cell? ⟨wr.heap.size, 1, none⟩ = some (.int .i64 ep)) := HK1.out
    generalize X.drew = XE at HF1 HF2 HF3 HXS HB5 HP2 HK1 hHeld ⊢
    refine qts [0, 1, 2, 3, 5, 6, 7] hHeld ?_
    iterate 7 (refine qtc (v := ?_) rfl rfl (fun w' hw' => ?_) ?_; rotate_left; (focus (go_simp; try with_reducible rfl)); simp only [zt,zs,zz,Act.put,zi,zy,zx])
    refine qtn ?_
    simp only [zt,zs,zz,Act.put,zi,zy,zx,qzl,qzn,qza,Nat.reduceAdd,Nat.reduceSub]
    refine wpAnyH_ready (rs := [4, 8]) (by kernel_rfl) (by simp) ?_
    refine (AllReadyH.cons rfl (fun K hK => ?_) (AllReadyH.cons rfl (fun K hK => ?_) AllReadyH.nil))
    ·skip
     have cl := HF1.out
     go_simp
     refine hK.out _ _ trivial (fun hHeld => ?_)
     clear cl
     clear hK K
     try simp only [zt,zs,zz,Act.put,zi,zy,zx]
     refine wpAnyH_ready (rs := [8]) (by kernel_rfl) (by simp) ?_
     refine (AllReadyH.cons rfl (fun K hK => ?_) AllReadyH.nil)
     have cl := HF1.out
     go_simp
     refine hK.out _ _ trivial (fun hHeld => ?_)
     clear cl
     clear hK K
     try simp only [zt,zs,zz,Act.put,zi,zy,zx]
     refine qts [9, 10, 11, 12, 13] hHeld ?_
     (refine qtc (v := ?_) rfl rfl (fun w' hw' => ?_) ?_; rotate_left; (focus (go_simp; try with_reducible rfl)); simp only [zt,zs,zz,Act.put,zi,zy,zx])
     (refine qtc (v := Value.int .i64 (rn : Int)) rfl rfl (fun w' hw' => ?_) ?_; (focus (go_simp; rw [IntKind.wrap_i64]; omega)); simp only [zt,zs,zz,Act.put,zi,zy,zx])
     (refine qtc (v := Value.slice (some ⟨og, 0, none⟩) rn c2) rfl rfl (fun w' hw' => ?_) ?_; (focus (go_simp; intro hq; omega)); simp only [zt,zs,zz,Act.put,zi,zy,zx])
     iterate 2 (refine qtc (v := ?_) rfl rfl (fun w' hw' => ?_) ?_; rotate_left; (focus (go_simp; try with_reducible rfl)); simp only [zt,zs,zz,Act.put,zi,zy,zx])
     refine qtn ?_
     simp only [zt,zs,zz,Act.put,zi,zy,zx,qzl,qzn,qza,Nat.reduceAdd,Nat.reduceSub]
     refine wpAnyH_ready (rs := [14]) (by kernel_rfl) (by simp) ?_
     refine (AllReadyH.cons rfl (fun K hK => ?_) AllReadyH.nil)
     have cl := HF1.out
     have cf := HF2.out
     go_simp
     refine hK.out _ _ trivial (fun hHeld => ?_)
     clear cl cf
     clear hK K
     try simp only [zt,zs,zz,Act.put,zi,zy,zx]
     refine wpAnyH_done (by kernel_rfl) ?_ _
     refine NoPanic.normal ?_
     clear hHeld
     have hk1 : (XE.setCell ⟨g, 2, none⟩ (.slice (some ⟨og, 0, none⟩) rn c2)).cell? ⟨wr.heap.size, 1, none⟩ = some (.int .i64 ep) := by
      rw [World.cell?_setCell_far _ _ _ _ (by show g ≠ wr.heap.size; omega)]; exact HK1.out
     have hb5 := HB5.out
     have hs1 : (XE.setCell ⟨g, 2, none⟩ (.slice (some ⟨og, 0, none⟩) rn c2)).heap.size = XE.heap.size := by simp [World.setCell]
     have hp2 := HP2.out
     rw [← hs1] at hp2
     have hN1 : w.heap.size < (XE.setCell ⟨g, 2, none⟩ (.slice (some ⟨og, 0, none⟩) rn c2)).heap.size := by rw [hs1]; have := HXS.out; omega
     clear HP2 HB5 HK1 HF1 HF2 HF3 hs1
     generalize XE.setCell ⟨g, 2, none⟩ (.slice (some ⟨og, 0, none⟩) rn c2) = X1 at hk1 hb5 hp2 hN1 ⊢
     have hx2 : (X1.alloc (.cells #[.int .i64 3, .string ⟨#[113, 117, 111, 116, 101]⟩, .slice none 0 0, .slice none 0 0, .int .i64 ep, .int .i64 k1, .string t1, .slice mo1 mn1 mc1, .slice lo1 ln1 lc1, .int .i64 pl1] 29)).heap[w.heap.size]? = some (.cells #[.int .i64 k1, .string t1, .slice mo1 mn1 mc1, .slice lo1 ln1 lc1, .int .i64 pl1] 29 (0, 0)) := by rw [Lib.alloc_old X1 _ _ hN1]; exact hb5
     have HX2 := Lib.hid hx2
     have HP2 := Lib.hid hp2
     clear hx2 hp2 hN1
     have z2 : (#[.int .i64 4, .string ⟨#[]⟩, .slice none 0 0, .slice (some ⟨X1.heap.size, 0, none⟩) 2 2, .int .i64 ep] : Array Value).all (·.oneCell') = true := by simp [Value.oneCell']
     go_wp2_with (first | refine wpList_load_row rfl 29 _ rfl w.heap.size rfl 29 #[.int .i64 k1, .string t1, .slice mo1 mn1 mc1, .slice lo1 ln1 lc1, .int .i64 pl1] (0, 0) _ hb5 Try.underlying29 rfl info40 ?_ | refine wpList_store_row rfl 29 _ _ rfl w.heap.size #[.int .i64 4, .string ⟨#[]⟩, .slice none 0 0, .slice (some ⟨X1.heap.size, 0, none⟩) 2 2, .int .i64 ep] rfl rfl 29 #[.int .i64 k1, .string t1, .slice mo1 mn1 mc1, .slice lo1 ln1 lc1, .int .i64 pl1] HX2.out info40 rfl z2 ?_)
     go_roundw
     case rel =>
      refine ⟨D2, r, out1, (e.add d1).dt, 4, ⟨#[]⟩, none, 0, 0, some ⟨X1.heap.size, 0, none⟩, 2, 2, ep, HP2.out, ?_, ?_⟩
      ·rw [← HEQ.out]
       conv => rhs; unfold putS
       rw [if_pos (by rw [← HEQ9.out])]
      ·exact ⟨fun x hx => HBD.out.1 x (List.mem_cons_of_mem _ hx), HBD.out.2.1, by have := HBD.out.2.2; simp only [List.length_cons] at this; omega⟩
     case measure =>
      obtain ⟨ao7, c7, bo7, dd7, hf7⟩ := HP2.out.rd.form
      have h7 := hf7.cells.2.2.1
      have h8 := HLN.out
      have h9 := HRN.out
      unfold oln at h8 ⊢
      rw [h7]
      simp only []
      omega
    ·skip
     have cl := HF1.out
     go_simp
     refine hK.out _ _ trivial (fun hHeld => ?_)
     clear cl
     clear hK K
     try simp only [zt,zs,zz,Act.put,zi,zy,zx]
     refine qtk (i := 9) (v := ?v49) rfl rfl (fun w' hw' => ?h49) hHeld ?r49
     case h49 => go_simp; try with_reducible rfl
     simp only [zt,zs,zz,Act.put,zi,zy,zx]
     refine qtk (i := 10) (v := Value.int .i64 (rn : Int)) rfl rfl (fun w' hw' => ?_) hHeld ?_
     ·go_simp; rw [IntKind.wrap_i64]; omega
     simp only [zt,zs,zz,Act.put,zi,zy,zx]
     refine wpAnyH_ready (rs := [4]) (by kernel_rfl) (by simp) ?_
     refine (AllReadyH.cons rfl (fun K hK => ?_) AllReadyH.nil)
     have cl := HF1.out
     go_simp
     refine hK.out _ _ trivial (fun hHeld => ?_)
     clear cl
     clear hK K
     try simp only [zt,zs,zz,Act.put,zi,zy,zx]
     refine qts [11, 12, 13] hHeld ?_
     (refine qtc (v := Value.slice (some ⟨og, 0, none⟩) rn c2) rfl rfl (fun w' hw' => ?_) ?_; (focus (go_simp; intro hq; omega)); simp only [zt,zs,zz,Act.put,zi,zy,zx])
     iterate 2 (refine qtc (v := ?_) rfl rfl (fun w' hw' => ?_) ?_; rotate_left; (focus (go_simp; try with_reducible rfl)); simp only [zt,zs,zz,Act.put,zi,zy,zx])
     refine qtn ?_
     simp only [zt,zs,zz,Act.put,zi,zy,zx,qzl,qzn,qza,Nat.reduceAdd,Nat.reduceSub]
     refine wpAnyH_ready (rs := [14]) (by kernel_rfl) (by simp) ?_
     refine (AllReadyH.cons rfl (fun K hK => ?_) AllReadyH.nil)
     have cl := HF1.out
     have cf := HF2.out
     go_simp
     refine hK.out _ _ trivial (fun hHeld => ?_)
     clear cl cf
     clear hK K
     try simp only [zt,zs,zz,Act.put,zi,zy,zx]
     refine wpAnyH_done (by kernel_rfl) ?_ _
     refine NoPanic.normal ?_
     clear hHeld
     have hk1 : (XE.setCell ⟨g, 2, none⟩ (.slice (some ⟨og, 0, none⟩) rn c2)).cell? ⟨wr.heap.size, 1, none⟩ = some (.int .i64 ep) := by
      rw [World.cell?_setCell_far _ _ _ _ (by show g ≠ wr.heap.size; omega)]; exact HK1.out
     have hb5 := HB5.out
     have hs1 : (XE.setCell ⟨g, 2, none⟩ (.slice (some ⟨og, 0, none⟩) rn c2)).heap.size = XE.heap.size := by simp [World.setCell]
     have hp2 := HP2.out
     rw [← hs1] at hp2
     have hN1 : w.heap.size < (XE.setCell ⟨g, 2, none⟩ (.slice (some ⟨og, 0, none⟩) rn c2)).heap.size := by rw [hs1]; have := HXS.out; omega
     clear HP2 HB5 HK1 HF1 HF2 HF3 hs1
     generalize XE.setCell ⟨g, 2, none⟩ (.slice (some ⟨og, 0, none⟩) rn c2) = X1 at hk1 hb5 hp2 hN1 ⊢
     have hx2 : (X1.alloc (.cells #[.int .i64 3, .string ⟨#[113, 117, 111, 116, 101]⟩, .slice none 0 0, .slice none 0 0, .int .i64 ep, .int .i64 k1, .string t1, .slice mo1 mn1 mc1, .slice lo1 ln1 lc1, .int .i64 pl1] 29)).heap[w.heap.size]? = some (.cells #[.int .i64 k1, .string t1, .slice mo1 mn1 mc1, .slice lo1 ln1 lc1, .int .i64 pl1] 29 (0, 0)) := by rw [Lib.alloc_old X1 _ _ hN1]; exact hb5
     have HX2 := Lib.hid hx2
     have HP2 := Lib.hid hp2
     clear hx2 hp2 hN1
     have z2 : (#[.int .i64 4, .string ⟨#[]⟩, .slice none 0 0, .slice (some ⟨X1.heap.size, 0, none⟩) 2 2, .int .i64 ep] : Array Value).all (·.oneCell') = true := by simp [Value.oneCell']
     go_wp2_with (first | refine wpList_load_row rfl 29 _ rfl w.heap.size rfl 29 #[.int .i64 k1, .string t1, .slice mo1 mn1 mc1, .slice lo1 ln1 lc1, .int .i64 pl1] (0, 0) _ hb5 Try.underlying29 rfl info40 ?_ | refine wpList_store_row rfl 29 _ _ rfl w.heap.size #[.int .i64 4, .string ⟨#[]⟩, .slice none 0 0, .slice (some ⟨X1.heap.size, 0, none⟩) 2 2, .int .i64 ep] rfl rfl 29 #[.int .i64 k1, .string t1, .slice mo1 mn1 mc1, .slice lo1 ln1 lc1, .int .i64 pl1] HX2.out info40 rfl z2 ?_)
     go_roundw
     case rel =>
      refine ⟨D2, r, out1, (e.add d1).dt, 4, ⟨#[]⟩, none, 0, 0, some ⟨X1.heap.size, 0, none⟩, 2, 2, ep, HP2.out, ?_, ?_⟩
      ·rw [← HEQ.out]
       conv => rhs; unfold putS
       rw [if_pos (by rw [← HEQ9.out])]
      ·exact ⟨fun x hx => HBD.out.1 x (List.mem_cons_of_mem _ hx), HBD.out.2.1, by have := HBD.out.2.2; simp only [List.length_cons] at this; omega⟩
     case measure =>
      obtain ⟨ao7, c7, bo7, dd7, hf7⟩ := HP2.out.rd.form
      have h7 := hf7.cells.2.2.1
      have h8 := HLN.out
      have h9 := HRN.out
      unfold oln at h8 ⊢
      rw [h7]
      simp only []
      omega
end Go.Proofs.Ytecljchifebljaa
namespace Go.Proofs.Ytecljchifebljaa
open Go.RowKit Go.BigM
def lget (k : Nat) : Nat := ([33, 63, 42, 60, 62, 61, 43, 45, 47, 46, 95] : List Nat).getD k 0
theorem lb_get (i : Nat) (h : i < 11) : ((⟨#[33, 63, 42, 60, 62, 61, 43, 45, 47, 46, 95]⟩ : ByteArray)[i]'h).toNat = lget i := by
 have key : ∀ i : Fin 11, ((⟨#[33, 63, 42, 60, 62, 61, 43, 45, 47, 46, 95]⟩ : ByteArray)[i.1]'i.2).toNat = lget i.1 := by decide +kernel
 exact key ⟨i, h⟩
theorem lget_in (i : Nat) (h : i < 11) : sset.contains (UInt8.ofNat (lget i)) = true := by
 have key : ∀ i : Fin 11, sset.contains (UInt8.ofNat (lget i.1)) = true := by decide +kernel
 exact key ⟨i, h⟩
def SgInv (c : UInt8) (w : World) (iv : Value) (wr : World) : Prop := ∃ i : Nat, i ≤ 11 ∧ iv = .int .i64 (i : Int) ∧ (∀ k, k < i → c.toNat ≠ lget k) ∧ wr = w
theorem sg_of (c : UInt8) (v : Nat) (h : c.toNat = v) (hv : (sset.contains (UInt8.ofNat v)) = true) : sset.contains c = true := by
 have : c = UInt8.ofNat v := by rw [← h]; simp
 rw [this]; exact hv
theorem sg_no (c : UInt8) (h : ¬ (97 ≤ c.toNat ∧ c.toNat ≤ 122) ∧ ¬ (48 ≤ c.toNat ∧ c.toNat ≤ 57)) (hin : ∀ k, k < 11 → c.toNat ≠ lget k) : sset.contains c = false := by
 have key : ∀ c : UInt8, (¬ (97 ≤ c.toNat ∧ c.toNat ≤ 122) ∧ ¬ (48 ≤ c.toNat ∧ c.toNat ≤ 57)) → (∀ k : Fin 11, c.toNat ≠ lget k.1) → sset.contains c = false := u8_all (by decide +kernel)
 exact key c h (fun k => hin k.1 k.2)
theorem sg_low (c : UInt8) (h : (97 ≤ c.toNat ∧ c.toNat ≤ 122) ∨ (48 ≤ c.toNat ∧ c.toNat ≤ 57)) : sset.contains c = true := by
 have key : ∀ c : UInt8, ((97 ≤ c.toNat ∧ c.toNat ≤ 122) ∨ (48 ≤ c.toNat ∧ c.toNat ≤ 57)) → sset.contains c = true := u8_all (by decide +kernel)
 exact key c h
set_option maxHeartbeats 8000000 in
set_option maxRecDepth 100000 in
theorem sign_any (c : UInt8) (w : World) : Calls Try.prog 85 #[.int .u8 (c.toNat : Int)] w fun e w' => e = .returned (.bool (sset.contains c)) ∧ w = w' := by
 go_enter Try.func85, Try.ntmps85
 by_cases h1 : 97 ≤ c.toNat
 ·have p1 : decide (97 ≤ (c.toNat : Int)) = true := decide_eq_true (by omega)
  by_cases h2 : c.toNat ≤ 122
  ·have p2 : decide ((c.toNat : Int) ≤ 122) = true := decide_eq_true (by omega)
   have HE : Hid (sset.contains c = true) := sg_low c (.inl ⟨h1, h2⟩)
   go_wp2_with fail
   go_ret
   exact ⟨by rw [HE.out]; rfl, rfl⟩
  ·have p2 : decide ((c.toNat : Int) ≤ 122) = false := decide_eq_false (by omega)
   have p3 : decide (48 ≤ (c.toNat : Int)) = true := decide_eq_true (by omega)
   have p4 : decide ((c.toNat : Int) ≤ 57) = false := decide_eq_false (by omega)
   have hno : ¬ (97 ≤ c.toNat ∧ c.toNat ≤ 122) ∧ ¬ (48 ≤ c.toNat ∧ c.toNat ≤ 57) := by omega
   go_wp2_with fail
   go_loopw [3] (fun iv wr => SgInv c w iv wr) (fun iv _ => 11 - (intOf iv).toNat)
   case atStart => exact ⟨0, by omega, rfl, fun k hk => absurd hk (by omega), rfl⟩
   case round =>
    obtain ⟨i, hi, rfl, hin, rfl⟩ := hrel
    have HIN := Lib.hid hin
    clear hin
    by_cases hlt : i < 11
    ·have hx : i < (⟨#[33, 63, 42, 60, 62, 61, 43, 45, 47, 46, 95]⟩ : ByteArray).size := hlt
     have q1 : decide ((i : Int) < 11) = true := decide_eq_true (by omega)
     have hg := lb_get i hlt
     by_cases hv : c.toNat = lget i
     ·have HE : Hid (sset.contains c = true) := sg_of c (lget i) hv (lget_in i hlt)
      have e2 : ((((⟨#[33, 63, 42, 60, 62, 61, 43, 45, 47, 46, 95]⟩ : ByteArray)[i]'hx).toNat : Int) == (c.toNat : Int)) = true := by rw [hg, hv]; simp
      clear hv hg
      go_wp2_with fail
      go_ret
      exact ⟨by rw [HE.out]; rfl, rfl⟩
     ·have e2 : ((((⟨#[33, 63, 42, 60, 62, 61, 43, 45, 47, 46, 95]⟩ : ByteArray)[i]'hx).toNat : Int) == (c.toNat : Int)) = false := by rw [hg]; simp; omega
      have HV := Lib.hid hv
      clear hv hg
      go_wp2_with fail
      go_roundw
      case rel => exact ⟨i + 1, by omega, by go_num, fun k hk => by
       by_cases hkj : k = i
       ·subst hkj; exact HV.out
       ·exact HIN.out k (by omega), rfl⟩
      case measure => simp [intOf]; omega
    ·have hi11 : i = 11 := by omega
     subst hi11
     have HE : Hid (sset.contains c = false) := sg_no c hno HIN.out
     go_wp2_with fail
     go_ret
     exact ⟨by rw [HE.out]; rfl, rfl⟩
 ·have p1 : decide (97 ≤ (c.toNat : Int)) = false := decide_eq_false (by omega)
  by_cases h2 : 48 ≤ c.toNat
  ·have p2 : decide (48 ≤ (c.toNat : Int)) = true := decide_eq_true (by omega)
   by_cases h3 : c.toNat ≤ 57
   ·have p3 : decide ((c.toNat : Int) ≤ 57) = true := decide_eq_true (by omega)
    have HE : Hid (sset.contains c = true) := sg_low c (.inr ⟨h2, h3⟩)
    go_wp2_with fail
    go_ret
    exact ⟨by rw [HE.out]; rfl, rfl⟩
   ·have p3 : decide ((c.toNat : Int) ≤ 57) = false := decide_eq_false (by omega)
    have hno : ¬ (97 ≤ c.toNat ∧ c.toNat ≤ 122) ∧ ¬ (48 ≤ c.toNat ∧ c.toNat ≤ 57) := by omega
    go_wp2_with fail
    go_loopw [3] (fun iv wr => SgInv c w iv wr) (fun iv _ => 11 - (intOf iv).toNat)
    case atStart => exact ⟨0, by omega, rfl, fun k hk => absurd hk (by omega), rfl⟩
    case round =>
     obtain ⟨i, hi, rfl, hin, rfl⟩ := hrel
     have HIN := Lib.hid hin
     clear hin
     by_cases hlt : i < 11
     ·have hx : i < (⟨#[33, 63, 42, 60, 62, 61, 43, 45, 47, 46, 95]⟩ : ByteArray).size := hlt
      have q1 : decide ((i : Int) < 11) = true := decide_eq_true (by omega)
      have hg := lb_get i hlt
      by_cases hv : c.toNat = lget i
      ·have HE : Hid (sset.contains c = true) := sg_of c (lget i) hv (lget_in i hlt)
       have e2 : ((((⟨#[33, 63, 42, 60, 62, 61, 43, 45, 47, 46, 95]⟩ : ByteArray)[i]'hx).toNat : Int) == (c.toNat : Int)) = true := by rw [hg, hv]; simp
       clear hv hg
       go_wp2_with fail
       go_ret
       exact ⟨by rw [HE.out]; rfl, rfl⟩
      ·have e2 : ((((⟨#[33, 63, 42, 60, 62, 61, 43, 45, 47, 46, 95]⟩ : ByteArray)[i]'hx).toNat : Int) == (c.toNat : Int)) = false := by rw [hg]; simp; omega
       have HV := Lib.hid hv
       clear hv hg
       go_wp2_with fail
       go_roundw
       case rel => exact ⟨i + 1, by omega, by go_num, fun k hk => by
        by_cases hkj : k = i
        ·subst hkj; exact HV.out
        ·exact HIN.out k (by omega), rfl⟩
       case measure => simp [intOf]; omega
     ·have hi11 : i = 11 := by omega
      subst hi11
      have HE : Hid (sset.contains c = false) := sg_no c hno HIN.out
      go_wp2_with fail
      go_ret
      exact ⟨by rw [HE.out]; rfl, rfl⟩
  ·have p2 : decide (48 ≤ (c.toNat : Int)) = false := decide_eq_false (by omega)
   have hno : ¬ (97 ≤ c.toNat ∧ c.toNat ≤ 122) ∧ ¬ (48 ≤ c.toNat ∧ c.toNat ≤ 57) := by omega
   go_wp2_with fail
   go_loopw [3] (fun iv wr => SgInv c w iv wr) (fun iv _ => 11 - (intOf iv).toNat)
   case atStart => exact ⟨0, by omega, rfl, fun k hk => absurd hk (by omega), rfl⟩
   case round =>
    obtain ⟨i, hi, rfl, hin, rfl⟩ := hrel
    have HIN := Lib.hid hin
    clear hin
    by_cases hlt : i < 11
    ·have hx : i < (⟨#[33, 63, 42, 60, 62, 61, 43, 45, 47, 46, 95]⟩ : ByteArray).size := hlt
     have q1 : decide ((i : Int) < 11) = true := decide_eq_true (by omega)
     have hg := lb_get i hlt
     by_cases hv : c.toNat = lget i
     ·have HE : Hid (sset.contains c = true) := sg_of c (lget i) hv (lget_in i hlt)
      have e2 : ((((⟨#[33, 63, 42, 60, 62, 61, 43, 45, 47, 46, 95]⟩ : ByteArray)[i]'hx).toNat : Int) == (c.toNat : Int)) = true := by rw [hg, hv]; simp
      clear hv hg
      go_wp2_with fail
      go_ret
      exact ⟨by rw [HE.out]; rfl, rfl⟩
     ·have e2 : ((((⟨#[33, 63, 42, 60, 62, 61, 43, 45, 47, 46, 95]⟩ : ByteArray)[i]'hx).toNat : Int) == (c.toNat : Int)) = false := by rw [hg]; simp; omega
      have HV := Lib.hid hv
      clear hv hg
      go_wp2_with fail
      go_roundw
      case rel => exact ⟨i + 1, by omega, by go_num, fun k hk => by
       by_cases hkj : k = i
       ·subst hkj; exact HV.out
       ·exact HIN.out k (by omega), rfl⟩
      case measure => simp [intOf]; omega
    ·have hi11 : i = 11 := by omega
     subst hi11
     have HE : Hid (sset.contains c = false) := sg_no c hno HIN.out
     go_wp2_with fail
     go_ret
     exact ⟨by rw [HE.out]; rfl, rfl⟩
end Go.Proofs.Ytecljchifebljaa
