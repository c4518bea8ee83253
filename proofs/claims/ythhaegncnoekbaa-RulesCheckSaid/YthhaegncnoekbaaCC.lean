/- Rules: RulesCheck, walked: the beginning. -/
import Derived.Test.YthhaegncnoekbaaYAA
import Derived.Test.YthhaegncnoekbaaYAU
import Derived.Test.YthhaegncnoekbaaYAW
import Derived.Test.YthhaegncnoekbaaYAX
import Derived.Test.YthhaegncnoekbaaCT
set_option linter.unusedVariables false
set_option linter.unusedSimpArgs false
namespace Go.Proofs.Ythhaegncnoekbaa
open Go Go.RowKit
theorem qh {p : Prop} (h : p) : Hid p := Lib.hid h
attribute [local go_sem] Oper.semAt_some
set_option maxHeartbeats 8000000 in
set_option maxRecDepth 100000 in
theorem check_walk (l : List Rw) (ao : Option Addr) (ac : Nat) (m : List Rw) (bo : Option Addr) (bc : Nat) (p t n : Int) (w : World) (hR : RsAt w ao l) (hR2 : RsAt w bo m) (hp : I64 p) (ht : I64 t) (hn : I64 n) :
    Calls Try.prog 3 #[.slice ao l.length ac, .slice bo m.length bc, .int .i64 p, .int .i64 t, .int .i64 n] w (RetBool true w) := by
  have BB := qh (Below.refl w.heap.size w)
  have HR := qh hR
  have HR2 := qh hR2
  clear hR hR2
  go_enter Try.func3, Try.ntmps3
  go_wp2_with (go_at_call 14; refine (known_any _).mono ?_; rintro e w1 ⟨rfl, hb⟩; replace BB := qh (BB.out.trans (hb.mono BB.out.size)); clear hb)
  refine (few_any l ao ac _ (HR.out.below BB.out)).mono ?_
  rintro e w2 ⟨r, rfl, hr, rfl⟩
  cases r with
  | false =>
    go_wp2_with fail
    go_ret
    exact ⟨rfl, BB.out⟩
  | true =>
  obtain ⟨hc, hdp⟩ := hr rfl
  clear hr
  go_wp2_with fail
  refine (few_any m bo bc _ (HR2.out.below BB.out)).mono ?_
  rintro e w2 ⟨r, rfl, hr2, rfl⟩
  cases r with
  | false =>
    go_wp2_with fail
    go_ret
    exact ⟨rfl, BB.out⟩
  | true =>
  obtain ⟨hc2, hdp2⟩ := hr2 rfl
  clear hr2
  have FA := qh (all_any l (by omega) ao ac w1 (HR.out.below BB.out))
  go_wp2_with fail
  refine FA.out.mono ?_
  rintro e w4 ⟨v4, rfl, hown, hb4⟩
  have hat := hown.at
  obtain ⟨o4, c4, rfl⟩ := hat.form
  have hsz := makes_size l
  replace BB := qh (BB.out.trans (hb4.mono BB.out.size))
  have HB4 := qh hb4
  have HL4 := qh hat
  clear hat hown hb4 FA
  have FA := qh (all_any m (by omega) bo bc w4 (HR2.out.below BB.out))
  go_wp2_with fail
  refine FA.out.mono ?_
  rintro e w6 ⟨v6, rfl, hown, hb6⟩
  have hat := hown.at
  obtain ⟨o6, c6, rfl⟩ := hat.form
  have hsz2 := makes_size m
  replace BB := qh (BB.out.trans (hb6.mono BB.out.size))
  have HB6 := qh hb6
  have HL6 := qh hat
  clear hat hown hb6 FA
  go_upto_region 6 with fail
  have hb0 : Below w6.heap.size w6 ((w6.alloc (.cells #[.int .i64 4, .string ⟨#[]⟩, .slice none 0 0, .slice o4 (Rw.makes l).length c4, .int .i64 0] 29)).alloc (.cells #[.int .i64 4, .string ⟨#[]⟩, .slice none 0 0, .slice o6 (Rw.makes m).length c6, .int .i64 0] 29)) := ((Below.refl _ _).alloc (Nat.le_refl _) _).alloc (by simp) _
  have hx0 : ((w6.alloc (.cells #[.int .i64 4, .string ⟨#[]⟩, .slice none 0 0, .slice o4 (Rw.makes l).length c4, .int .i64 0] 29)).alloc (.cells #[.int .i64 4, .string ⟨#[]⟩, .slice none 0 0, .slice o6 (Rw.makes m).length c6, .int .i64 0] 29)).heap[w6.heap.size]? = some (Obj.cells #[.int .i64 4, .string ⟨#[]⟩, .slice none 0 0, .slice o4 (Rw.makes l).length c4, .int .i64 0] 29 (0, 0)) := (Lib.alloc_old _ _ _ (by simp)).trans (alloc_at _ _)
  have hx1 : ((w6.alloc (.cells #[.int .i64 4, .string ⟨#[]⟩, .slice none 0 0, .slice o4 (Rw.makes l).length c4, .int .i64 0] 29)).alloc (.cells #[.int .i64 4, .string ⟨#[]⟩, .slice none 0 0, .slice o6 (Rw.makes m).length c6, .int .i64 0] 29)).heap[w6.heap.size + 1]? = some (Obj.cells #[.int .i64 4, .string ⟨#[]⟩, .slice none 0 0, .slice o6 (Rw.makes m).length c6, .int .i64 0] 29 (0, 0)) := second2 _ _ _
  have hs0 : ((w6.alloc (.cells #[.int .i64 4, .string ⟨#[]⟩, .slice none 0 0, .slice o4 (Rw.makes l).length c4, .int .i64 0] 29)).alloc (.cells #[.int .i64 4, .string ⟨#[]⟩, .slice none 0 0, .slice o6 (Rw.makes m).length c6, .int .i64 0] 29)).heap.size = w6.heap.size + 2 := by simp
  generalize ((w6.alloc (.cells #[.int .i64 4, .string ⟨#[]⟩, .slice none 0 0, .slice o4 (Rw.makes l).length c4, .int .i64 0] 29)).alloc (.cells #[.int .i64 4, .string ⟨#[]⟩, .slice none 0 0, .slice o6 (Rw.makes m).length c6, .int .i64 0] 29)) = X at hb0 hx0 hx1 hs0 ⊢
  have HC : Hid (∀ w', Below X.heap.size X w' → w'.cell? ⟨w6.heap.size, 0, none⟩ = some (.int .i64 4) ∧ w'.cell? ⟨w6.heap.size, 1, none⟩ = some (.string ⟨#[]⟩) ∧ w'.cell? ⟨w6.heap.size, 2, none⟩ = some (.slice none 0 0) ∧ w'.cell? ⟨w6.heap.size, 3, none⟩ = some (.slice o4 (Rw.makes l).length c4) ∧ w'.cell? ⟨w6.heap.size, 4, none⟩ = some (.int .i64 0)) := by
    intro w' h
    have e := (h.block w6.heap.size (by omega)).trans hx0
    exact ⟨by rw [Lib.cell_of_heap e]; rfl, by rw [Lib.cell_of_heap e]; rfl, by rw [Lib.cell_of_heap e]; rfl, by rw [Lib.cell_of_heap e]; rfl, by rw [Lib.cell_of_heap e]; rfl⟩
  have HC2 : Hid (∀ w', Below X.heap.size X w' → w'.cell? ⟨w6.heap.size + 1, 0, none⟩ = some (.int .i64 4) ∧ w'.cell? ⟨w6.heap.size + 1, 1, none⟩ = some (.string ⟨#[]⟩) ∧ w'.cell? ⟨w6.heap.size + 1, 2, none⟩ = some (.slice none 0 0) ∧ w'.cell? ⟨w6.heap.size + 1, 3, none⟩ = some (.slice o6 (Rw.makes m).length c6) ∧ w'.cell? ⟨w6.heap.size + 1, 4, none⟩ = some (.int .i64 0)) := by
    intro w' h
    have e := (h.block (w6.heap.size + 1) (by omega)).trans hx1
    exact ⟨by rw [Lib.cell_of_heap e]; rfl, by rw [Lib.cell_of_heap e]; rfl, by rw [Lib.cell_of_heap e]; rfl, by rw [Lib.cell_of_heap e]; rfl, by rw [Lib.cell_of_heap e]; rfl⟩
  have hsz4 := HB4.out.size
  have hsz6 := HB6.out.size
  have HLX4 := qh ((HL4.out.keeps (Keeps.of_below (HB6.out.trans (hb0.mono hsz6)))))
  have HLX6 := qh (HL6.out.keeps (Keeps.of_below hb0))
  have HLA := qh (list_at HLX4.out)
  have HLB := qh (list_at ((LAt.low HL6.out).keeps (Keeps.of_below hb0)))
  have HM6 := qh (LAt.low HL6.out)
  have HB60 := qh hb0
  replace BB := qh (BB.out.trans (hb0.mono BB.out.size))
  have hB1 : w1.heap.size ≤ X.heap.size := by omega
  obtain ⟨kp, hkp, hkp2⟩ := mod_nat p 15 (by decide)
  obtain ⟨kp', hkp', hkp2'⟩ := mod_nat p 16 (by decide)
  obtain ⟨kt, hkt, hkt2⟩ := mod_nat t 16 (by decide)
  obtain ⟨kt', hkt', hkt2'⟩ := mod_nat t 15 (by decide)
  obtain ⟨kn, hkn, hkn2⟩ := mod_nat n 4 (by decide)
  have F18 := qh (pattern_any p kp hp hkp hkp2)
  have F19 := qh (template_any p kp' hp hkp' hkp2')
  have G19 := qh (template_any t kt ht hkt hkt2)
  have G18 := qh (pattern_any t kt' ht hkt' hkt2')
  have FL := qh (lits_any n kn hn hkn hkn2)
  obtain ⟨LL, hLL⟩ : ∃ LL, LL = lLit.take kn := ⟨_, rfl⟩
  rw [← hLL] at FL
  have HLL : Hid (LL.length ≤ 1000000 ∧ ∀ s ∈ LL, s.size ≤ 1000000) := by
    have hLS : ∀ s ∈ lLit, s.size ≤ 1000000 := by decide
    rw [hLL]; exact ⟨by simp [lLit]; omega, fun s h => hLS s (List.mem_of_mem_take h)⟩
  clear hLL
  obtain ⟨wf1, sz1, tz1⟩ := pT_ok kp hkp2
  obtain ⟨wf2, sz2, tz2⟩ := mT_ok kp' hkp2'
  obtain ⟨wf3, sz3, tz3⟩ := mT_ok kt hkt2
  obtain ⟨wf4, sz4, tz4⟩ := pT_ok kt' hkt2'
  have F17p := qh (fun W => one_any (pT kp) W (by omega))
  have F17m := qh (fun W => one_any (mT kp') W (by omega))
  have G17m := qh (fun W => one_any (mT kt) W (by omega))
  have G17p := qh (fun W => one_any (pT kt') W (by omega))
  have HW1 := qh wf1
  have HW2 := qh wf2
  have HW3 := qh wf3
  have HW4 := qh wf4
  clear hx0 hx1 hb0 hp ht hn hkp hkp' hkt hkt' hkn wf1 wf2 wf3 wf4
  refine wp_region_noPanic ?_
  refine wp_region_held_drew (S := Below X.heap.size X) (by kernel_rfl) ((Below.refl _ _).drew) (fun hH => ?_)
  have hsd : X.drew.heap.size = X.heap.size := rfl
  generalize X.drew = V at hH hsd ⊢
  refine qtk (i := 0) (v := ?v0) rfl rfl (fun w' hw' => ?h0) hH ?r0
  case h0 => (obtain ⟨e0, e1, e2, e3, e4⟩ := HC.out w' hw'; go_simp); try with_reducible rfl
  simp only [zt,zs,zz,Act.put,zi,zy,zx]
  refine qtk (i := 1) (v := ?v1) rfl rfl (fun w' hw' => ?h1) hH ?r1
  case h1 => go_simp; try with_reducible rfl
  simp only [zt,zs,zz,Act.put,zi,zy,zx]
  refine qtk (i := 4) (v := ?v2) rfl rfl (fun w' hw' => ?h2) hH ?r2
  case h2 => go_simp; try with_reducible rfl
  simp only [zt,zs,zz,Act.put,zi,zy,zx]
  refine wpAnyH_ready (rs := [2]) (by kernel_rfl) (by simp) ?_
  refine (AllReadyH.cons rfl (fun K hK => ?_) AllReadyH.nil)
  go_simp
  refine (F18.out V).mono ?_
  rintro e v2 ⟨rfl, hb⟩
  have hH := hH.trans (hb.mono (by omega))
  have hs2 := hb.size
  clear hb
  refine hK.out _ _ hH (fun hH => ?_)
  clear hK K
  try simp only [zt,zs,zz,Act.put,zi,zy,zx]
  refine wpAnyH_ready (rs := [3]) (by kernel_rfl) (by simp) ?_
  refine (AllReadyH.cons rfl (fun K hK => ?_) AllReadyH.nil)
  go_simp
  refine (F17p.out v2).mono ?_
  rintro e v3 ⟨cs1, rfl, hat1, hb⟩
  obtain ⟨mv1, lv1, rfl, p1, q1⟩ := At_five hat1
  have hH := hH.trans (hb.mono (by omega))
  have hs3 := hb.size
  have HT1 := qh hat1
  clear hat1 hb
  refine hK.out _ _ hH (fun hH => ?_)
  clear hK K
  try simp only [zt,zs,zz,Act.put,zi,zy,zx]
  refine wpAnyH_ready (rs := [5]) (by kernel_rfl) (by simp) ?_
  refine (AllReadyH.cons rfl (fun K hK => ?_) AllReadyH.nil)
  go_simp
  refine (F19.out v3).mono ?_
  rintro e v5 ⟨rfl, hb⟩
  have hH := hH.trans (hb.mono (by omega))
  have hs5 := hb.size
  have HT5 := qh (Dt.At.keeps (Keeps.of_below hb) _ _ HT1.out)
  clear hb
  refine hK.out _ _ hH (fun hH => ?_)
  clear hK K
  try simp only [zt,zs,zz,Act.put,zi,zy,zx]
  refine wpAnyH_ready (rs := [6]) (by kernel_rfl) (by simp) ?_
  refine (AllReadyH.cons rfl (fun K hK => ?_) AllReadyH.nil)
  go_simp
  refine (F17m.out v5).mono ?_
  rintro e v6 ⟨cs2, rfl, hat2, hb⟩
  obtain ⟨mv2, lv2, rfl, p2, q2⟩ := At_five hat2
  have hH := hH.trans (hb.mono (by omega))
  have hs6 := hb.size
  have HT2 := qh hat2
  have HT6 := qh (Dt.At.keeps (Keeps.of_below hb) _ _ HT5.out)
  clear hat2 hb
  refine hK.out _ _ hH (fun hH => ?_)
  clear hK K
  try simp only [zt,zs,zz,Act.put,zi,zy,zx]
  refine wpAnyH_ready (rs := [7]) (by kernel_rfl) (by simp) ?_
  refine (AllReadyH.cons rfl (fun K hK => ?_) AllReadyH.nil)
  go_simp
  have hvx : X.heap.size ≤ v6.heap.size := hH.size
  have HOP := qh (own3 (S := fun g => g < v6.heap.size) (B := 0) (w := v6) (Nat.zero_le _) (Dt.At.low _ _ (Dt.At.keeps (Keeps.of_below hH) _ _ HLA.out)) (Dt.At.low _ _ HT6.out) (Dt.At.low _ _ HT2.out))
  have hb9 := (Below.refl v6.heap.size v6).alloc (Nat.le_refl _) (.cells #[.int .i64 4, .string ⟨#[]⟩, .slice none 0 0, .slice o4 (Rw.makes l).length c4, .int .i64 0, .int .i64 (oneOf (pT kp)).kind, .string (oneOf (pT kp)).text, mv1, lv1, .int .i64 (oneOf (pT kp)).place, .int .i64 (oneOf (mT kp')).kind, .string (oneOf (mT kp')).text, mv2, lv2, .int .i64 (oneOf (mT kp')).place] 29)
  have hH : Below X.heap.size X _ := hH.trans (hb9.mono (by omega))
  have hs9 := hb9.size
  clear hb9
  refine hK.out _ _ hH (fun hH => ?_)
  clear hK K
  try simp only [zt,zs,zz,Act.put,zi,zy,zx]
  refine qtk (i := 8) (v := ?v3) rfl rfl (fun w' hw' => ?h3) hH ?r3
  case h3 => go_simp; try with_reducible rfl
  simp only [zt,zs,zz,Act.put,zi,zy,zx]
  refine wpAnyH_done (by kernel_rfl) ?_ _
  refine NoPanic.normal ?_
  have hEnd := qh hH
  clear hH
  obtain ⟨Y, hY⟩ : ∃ Y, Y = v6.alloc (.cells #[.int .i64 4, .string ⟨#[]⟩, .slice none 0 0, .slice o4 (Rw.makes l).length c4, .int .i64 0, .int .i64 (oneOf (pT kp)).kind, .string (oneOf (pT kp)).text, mv1, lv1, .int .i64 (oneOf (pT kp)).place, .int .i64 (oneOf (mT kp')).kind, .string (oneOf (mT kp')).text, mv2, lv2, .int .i64 (oneOf (mT kp')).place] 29) := ⟨_, rfl⟩
  have hs99 : Y.heap.size = v6.heap.size + 1 := by rw [hY]; simp
  rw [← hY] at hEnd HOP hs9 ⊢
  obtain ⟨gP, hgP⟩ : ∃ g, g = v6.heap.size := ⟨_, rfl⟩
  rw [← hgP] at HOP hs99 ⊢
  have hYs : X.heap.size ≤ Y.heap.size := hEnd.out.size
  have hgP1 : X.heap.size ≤ gP := by omega
  have hgP2 : gP < Y.heap.size := by omega
  clear hY HT1 HT5 HT2 HT6 p1 q1 p2 q2 hsd hs2 hs3 hs5 hs6 hs9 hvx hgP hs99
  go_upto_region 7 with fail
  have HLB7 := qh (Dt.At.keeps (Keeps.of_below hEnd.out) _ _ HLB.out)
  have HEY := qh hEnd.out
  clear hEnd
  refine wp_region_noPanic ?_
  refine wp_region_held_drew (S := Below Y.heap.size Y) (by kernel_rfl) ((Below.refl _ _).drew) (fun hH => ?_)
  have hsd : Y.drew.heap.size = Y.heap.size := rfl
  generalize Y.drew = V at hH hsd ⊢
  refine qtk (i := 0) (v := ?v4) rfl rfl (fun w' hw' => ?h4) hH ?r4
  case h4 => (obtain ⟨e0, e1, e2, e3, e4⟩ := HC2.out w' (HEY.out.trans (hw'.mono hYs)); go_simp); try with_reducible rfl
  simp only [zt,zs,zz,Act.put,zi,zy,zx]
  refine qtk (i := 1) (v := ?v5) rfl rfl (fun w' hw' => ?h5) hH ?r5
  case h5 => go_simp; try with_reducible rfl
  simp only [zt,zs,zz,Act.put,zi,zy,zx]
  refine qtk (i := 4) (v := ?v6) rfl rfl (fun w' hw' => ?h6) hH ?r6
  case h6 => go_simp; try with_reducible rfl
  simp only [zt,zs,zz,Act.put,zi,zy,zx]
  refine wpAnyH_ready (rs := [2]) (by kernel_rfl) (by simp) ?_
  refine (AllReadyH.cons rfl (fun K hK => ?_) AllReadyH.nil)
  go_simp
  refine (G19.out V).mono ?_
  rintro e v2 ⟨rfl, hb⟩
  have hH := hH.trans (hb.mono (by omega))
  have hs2 := hb.size
  clear hb
  refine hK.out _ _ hH (fun hH => ?_)
  clear hK K
  try simp only [zt,zs,zz,Act.put,zi,zy,zx]
  refine wpAnyH_ready (rs := [3]) (by kernel_rfl) (by simp) ?_
  refine (AllReadyH.cons rfl (fun K hK => ?_) AllReadyH.nil)
  go_simp
  refine (G17m.out v2).mono ?_
  rintro e v3 ⟨cs1, rfl, hat1, hb⟩
  obtain ⟨mv1, lv1, rfl, p1, q1⟩ := At_five hat1
  have hH := hH.trans (hb.mono (by omega))
  have hs3 := hb.size
  have HT1 := qh hat1
  clear hat1 hb
  refine hK.out _ _ hH (fun hH => ?_)
  clear hK K
  try simp only [zt,zs,zz,Act.put,zi,zy,zx]
  refine wpAnyH_ready (rs := [5]) (by kernel_rfl) (by simp) ?_
  refine (AllReadyH.cons rfl (fun K hK => ?_) AllReadyH.nil)
  go_simp
  refine (G18.out v3).mono ?_
  rintro e v5 ⟨rfl, hb⟩
  have hH := hH.trans (hb.mono (by omega))
  have hs5 := hb.size
  have HT5 := qh (Dt.At.keeps (Keeps.of_below hb) _ _ HT1.out)
  clear hb
  refine hK.out _ _ hH (fun hH => ?_)
  clear hK K
  try simp only [zt,zs,zz,Act.put,zi,zy,zx]
  refine wpAnyH_ready (rs := [6]) (by kernel_rfl) (by simp) ?_
  refine (AllReadyH.cons rfl (fun K hK => ?_) AllReadyH.nil)
  go_simp
  refine (G17p.out v5).mono ?_
  rintro e v6 ⟨cs2, rfl, hat2, hb⟩
  obtain ⟨mv2, lv2, rfl, p2, q2⟩ := At_five hat2
  have hH := hH.trans (hb.mono (by omega))
  have hs6 := hb.size
  have HT2 := qh hat2
  have HT6 := qh (Dt.At.keeps (Keeps.of_below hb) _ _ HT5.out)
  clear hat2 hb
  refine hK.out _ _ hH (fun hH => ?_)
  clear hK K
  try simp only [zt,zs,zz,Act.put,zi,zy,zx]
  refine wpAnyH_ready (rs := [7]) (by kernel_rfl) (by simp) ?_
  refine (AllReadyH.cons rfl (fun K hK => ?_) AllReadyH.nil)
  go_simp
  have hvx : Y.heap.size ≤ v6.heap.size := hH.size
  have HOT := qh (own3 (S := fun g => g < w6.heap.size ∨ (Y.heap.size ≤ g ∧ g < v6.heap.size)) (B := 0) (w := v6) (Nat.zero_le _) (Dt.At.mono (fun g h => .inl h) _ _ (Dt.At.keeps (Keeps.of_below hH) _ _ HLB7.out)) (Dt.At.mono (fun g (h : v2.heap.size ≤ g ∧ g < v6.heap.size) => .inr ⟨by omega, h.2⟩) _ _ (Dt.At.bound _ _ HT6.out)) (Dt.At.mono (fun g (h : v5.heap.size ≤ g ∧ g < v6.heap.size) => .inr ⟨by omega, h.2⟩) _ _ (Dt.At.bound _ _ HT2.out)))
  have hb9 := (Below.refl v6.heap.size v6).alloc (Nat.le_refl _) (.cells #[.int .i64 4, .string ⟨#[]⟩, .slice none 0 0, .slice o6 (Rw.makes m).length c6, .int .i64 0, .int .i64 (oneOf (mT kt)).kind, .string (oneOf (mT kt)).text, mv1, lv1, .int .i64 (oneOf (mT kt)).place, .int .i64 (oneOf (pT kt')).kind, .string (oneOf (pT kt')).text, mv2, lv2, .int .i64 (oneOf (pT kt')).place] 29)
  have hH : Below Y.heap.size Y _ := hH.trans (hb9.mono (by omega))
  have hs9 := hb9.size
  clear hb9
  refine hK.out _ _ hH (fun hH => ?_)
  clear hK K
  try simp only [zt,zs,zz,Act.put,zi,zy,zx]
  refine qtk (i := 8) (v := ?v7) rfl rfl (fun w' hw' => ?h7) hH ?r7
  case h7 => go_simp; try with_reducible rfl
  simp only [zt,zs,zz,Act.put,zi,zy,zx]
  refine wpAnyH_done (by kernel_rfl) ?_ _
  refine NoPanic.normal ?_
  have hEnd := qh hH
  clear hH
  obtain ⟨Z, hZ⟩ : ∃ Z, Z = v6.alloc (.cells #[.int .i64 4, .string ⟨#[]⟩, .slice none 0 0, .slice o6 (Rw.makes m).length c6, .int .i64 0, .int .i64 (oneOf (mT kt)).kind, .string (oneOf (mT kt)).text, mv1, lv1, .int .i64 (oneOf (mT kt)).place, .int .i64 (oneOf (pT kt')).kind, .string (oneOf (pT kt')).text, mv2, lv2, .int .i64 (oneOf (pT kt')).place] 29) := ⟨_, rfl⟩
  have hs99 : Z.heap.size = v6.heap.size + 1 := by rw [hZ]; simp
  rw [← hZ] at hEnd HOT hs9 ⊢
  obtain ⟨gT, hgT⟩ : ∃ g, g = v6.heap.size := ⟨_, rfl⟩
  rw [← hgT] at HOT hs99 ⊢
  have hZs : Y.heap.size ≤ Z.heap.size := hEnd.out.size
  have hgT1 : Y.heap.size ≤ gT := by omega
  have hgT2 : gT < Z.heap.size := by omega
  have HOP7 := qh (HOP.out.below hEnd.out)
  have HEZ := qh (HEY.out.trans (hEnd.out.mono hYs))
  clear hZ HT1 HT5 HT2 HT6 p1 q1 p2 q2 hsd hs2 hs3 hs5 hs6 hs9 hvx hgT hs99 hEnd HOP HLB7
  have HC8 : Hid (∀ w', Below Z.heap.size Z w' → w'.cell? ⟨w6.heap.size + 1, 3, none⟩ = some (.slice o6 (Rw.makes m).length c6)) := by
    intro w' h
    exact (HC2.out w' (HEZ.out.trans (h.mono HEZ.out.size))).2.2.2.1
  have hxz := HEZ.out.size
  have BBZ := qh (BB.out.trans (HEZ.out.mono BB.out.size))
  have HGA : Hid ((Dt.mk 4 ⟨#[]⟩ [] (Rw.makes l) 0).wf ∧ (Dt.mk 4 ⟨#[]⟩ [] (Rw.makes l) 0).size ≤ 9000) := ⟨list_wf l, by have := list_size l; omega⟩
  have HGB : Hid ((Dt.mk 4 ⟨#[]⟩ [] (Rw.makes m) 0).wf ∧ (Dt.mk 4 ⟨#[]⟩ [] (Rw.makes m) 0).size ≤ 9000) := ⟨list_wf m, by have := list_size m; omega⟩
  obtain ⟨M, hM⟩ : ∃ M, M = Rw.makes m := ⟨_, rfl⟩
  have HMW := qh (makes_ok m hc2)
  rw [← hM] at HC8 HM6 HMW HGB HOT ⊢
  clear hM HC HC2 HLX4 HLX6 HLA HLB HEY HL4 HL6 HB4 HB6
  by_cases h0 : M.length = 0
  · have q8 : decide ((0 : Int) < (M.length : Int)) = false := decide_eq_false (by omega)
    have q8' : ¬ (0 < M.length) := by omega
    have d8 := HC8.out Z (Below.refl _ _)
    clear h0
    obtain ⟨Z9, hZ9⟩ : ∃ Z9, Z9 = Z := ⟨_, rfl⟩
    have HLP : Hid (LAt (fun g => g < Z9.heap.size) Z9 (.slice (some ⟨gP, 0, none⟩) 3 3) [Dt.mk 4 ⟨#[]⟩ [] (Rw.makes l) 0, oneOf (pT kp), oneOf (mT kp')]) := by subst hZ9; exact HOP7.out.low9
    have HLT : Hid (LAt (fun g => g < Z9.heap.size) Z9 (.slice (some ⟨gT, 0, none⟩) 3 3) [Dt.mk 4 ⟨#[]⟩ [] M 0, oneOf (mT kt), oneOf (pT kt')]) := by subst hZ9; exact HOT.out.low9
    have HGP : Hid (∀ d ∈ [Dt.mk 4 ⟨#[]⟩ [] (Rw.makes l) 0, oneOf (pT kp), oneOf (mT kp')], d.wf ∧ d.size ≤ 9000) := by
      intro d hd
      simp only [List.mem_cons, List.not_mem_nil, or_false] at hd
      rcases hd with rfl | rfl | rfl
      · exact HGA.out
      · exact ⟨HW1.out, by omega⟩
      · exact ⟨HW2.out, by omega⟩
    have HGT : Hid (∀ d ∈ [Dt.mk 4 ⟨#[]⟩ [] M 0, oneOf (mT kt), oneOf (pT kt')], d.wf ∧ d.size ≤ 9000) := by
      intro d hd
      simp only [List.mem_cons, List.not_mem_nil, or_false] at hd
      rcases hd with rfl | rfl | rfl
      · exact HGB.out
      · exact ⟨HW3.out, by omega⟩
      · exact ⟨HW4.out, by omega⟩
    have BB9 : Hid (Below w.heap.size w Z9) := by subst hZ9; exact BBZ.out
    go_wp2_with fail
    rw [← hZ9]
    clear hZ9 d8 q8 q8' HOT HOP7 HC8 HM6
    generalize (Value.slice (some ⟨gP, 0, none⟩) 3 3) = psv at HLP ⊢
    generalize (Value.slice (some ⟨gT, 0, none⟩) 3 3) = tsv at HLT ⊢
    obtain ⟨P, hP⟩ : ∃ P, P = [Dt.mk 4 ⟨#[]⟩ [] (Rw.makes l) 0, oneOf (pT kp), oneOf (mT kp')] := ⟨_, rfl⟩
    obtain ⟨T, hT⟩ : ∃ T, T = [Dt.mk 4 ⟨#[]⟩ [] M 0, oneOf (mT kt), oneOf (pT kt')] := ⟨_, rfl⟩
    rw [← hP] at HLP HGP
    rw [← hT] at HLT HGT
    have hPl : P.length ≤ 100 := by rw [hP]; simp
    have hTl : T.length ≤ 100 := by rw [hT]; simp
    obtain ⟨oP, cP, hv1⟩ := HLP.out.form
    obtain ⟨oT, cT, hv2⟩ := HLT.out.form
    subst hv1; subst hv2
    clear hP hT
    go_wp2_with fail
    go_loopw [15, 16] (fun iv kv wr => ∃ i : Nat, i ≤ P.length ∧ iv = .int .i64 (i : Int) ∧ Below Z9.heap.size Z9 wr) (fun iv _ _ => P.length - (intOf iv).toNat)
    case atStart => exact ⟨0, Nat.zero_le _, rfl, Below.refl _ _⟩
    case round =>
      obtain ⟨i, hi, rfl, hbr⟩ := hrel
      have HBR := qh hbr
      clear hbr
      obtain ⟨wo, rfl⟩ : ∃ wo, wo = wr := ⟨_, rfl⟩
      by_cases hlt : i < P.length
      · have q1 : decide ((i : Int) < (P.length : Int)) = true := decide_eq_true (by omega)
        go_wp2_with fail
        go_loopw [16] (fun kv wr2 => ∃ k : Nat, k ≤ T.length ∧ kv = .int .i64 (k : Int) ∧ Below Z9.heap.size Z9 wr2) (fun kv _ => T.length - (intOf kv).toNat)
        case atStart => exact ⟨0, Nat.zero_le _, rfl, HBR.out⟩
        case round =>
          obtain ⟨k, hk, rfl, hbr2⟩ := hrel
          have HBS := qh hbr2
          clear hbr2
          by_cases hlt2 : k < T.length
          · have q2 : decide ((k : Int) < (T.length : Int)) = true := decide_eq_true (by omega)
            obtain ⟨g1, f1, a1, b1, m1, r1, z1, he1, hS1, _, hat1, e0, e1, e2, e3, e4, x1, y1⟩ := (HLP.out.keeps (Keeps.of_below HBS.out)).get i hlt
            obtain ⟨g2, f2, a2, b2, m2, r2, z2, he2, hS2, _, hat2, e20, e21, e22, e23, e24, x2, y2⟩ := (HLT.out.keeps (Keeps.of_below HBS.out)).get k hlt2
            first | subst he1 | (simp only [Option.some.injEq, Addr.mk.injEq, and_true] at he1; obtain ⟨rfl, rfl⟩ := he1)
            first | subst he2 | (simp only [Option.some.injEq, Addr.mk.injEq, and_true] at he2; obtain ⟨rfl, rfl⟩ := he2)
            have hpj := HGP.out P[i] (List.getElem_mem hlt)
            have htj := HGT.out T[k] (List.getElem_mem hlt2)
            obtain ⟨pj, hp9⟩ : ∃ d, d = P[i] := ⟨_, rfl⟩
            obtain ⟨tj, ht9⟩ : ∃ d, d = T[k] := ⟨_, rfl⟩
            rw [← hp9] at hat1 hpj
            rw [← ht9] at hat2 htj
            have HPJ := qh hpj
            have HTJ := qh htj
            have HAT := qh hat1
            have HAT2 := qh hat2
            have HC : Hid (∀ w', Below wr.heap.size wr w' → (w'.cell? ⟨g1, f1 + i * 5, none⟩ = some (.int .i64 a1) ∧ w'.cell? ⟨g1, f1 + i * 5 + 1, none⟩ = some (.string b1) ∧ w'.cell? ⟨g1, f1 + i * 5 + 2, none⟩ = some m1 ∧ w'.cell? ⟨g1, f1 + i * 5 + 3, none⟩ = some r1 ∧ w'.cell? ⟨g1, f1 + i * 5 + 4, none⟩ = some (.int .i64 z1)) ∧
                w'.cell? ⟨g2, f2 + k * 5, none⟩ = some (.int .i64 a2) ∧ w'.cell? ⟨g2, f2 + k * 5 + 1, none⟩ = some (.string b2) ∧ w'.cell? ⟨g2, f2 + k * 5 + 2, none⟩ = some m2 ∧ w'.cell? ⟨g2, f2 + k * 5 + 3, none⟩ = some r2 ∧ w'.cell? ⟨g2, f2 + k * 5 + 4, none⟩ = some (.int .i64 z2)) := by
              intro w' h
              exact ⟨⟨cell_below h e0, cell_below h e1, cell_below h e2, cell_below h e3, cell_below h e4⟩, cell_below h e20, cell_below h e21, cell_below h e22, cell_below h e23, cell_below h e24⟩
            clear e0 e1 e2 e3 e4 e20 e21 e22 e23 e24 hat1 hat2 hpj htj hp9 ht9 hS1 hS2
            go_upto_region 17 with fail
            refine wp_region_noPanic ?_
            refine wp_region_held_drew (S := Below wr.heap.size wr) (by kernel_rfl) ((Below.refl _ _).drew) (fun hH => ?_)
            have hsd : wr.drew.heap.size = wr.heap.size := rfl
            generalize wr.drew = V at hH hsd ⊢
            refine qtk (i := 0) (v := ?v8) rfl rfl (fun w' hw' => ?h8) hH ?r8
            case h8 => go_simp; try with_reducible rfl
            simp only [zt,zs,zz,Act.put,zi,zy,zx]
            refine qtk (i := 2) (v := ?v9) rfl rfl (fun w' hw' => ?h9) hH ?r9
            case h9 => go_simp; try with_reducible rfl
            simp only [zt,zs,zz,Act.put,zi,zy,zx]
            refine qtk (i := 3) (v := ?v10) rfl rfl (fun w' hw' => ?h10) hH ?r10
            case h10 => go_simp; try with_reducible rfl
            simp only [zt,zs,zz,Act.put,zi,zy,zx]
            refine qtk (i := 4) (v := ?v11) rfl rfl (fun w' hw' => ?h11) hH ?r11
            case h11 => go_simp; try with_reducible rfl
            simp only [zt,zs,zz,Act.put,zi,zy,zx]
            refine qtk (i := 5) (v := ?v12) rfl rfl (fun w' hw' => ?h12) hH ?r12
            case h12 => (obtain ⟨⟨e0, e1, e2, e3, e4⟩, e20, e21, e22, e23, e24⟩ := HC.out w' hw'; go_simp); try with_reducible rfl
            simp only [zt,zs,zz,Act.put,zi,zy,zx]
            refine qtk (i := 6) (v := ?v13) rfl rfl (fun w' hw' => ?h13) hH ?r13
            case h13 => go_simp; try with_reducible rfl
            simp only [zt,zs,zz,Act.put,zi,zy,zx]
            refine qtk (i := 7) (v := ?v14) rfl rfl (fun w' hw' => ?h14) hH ?r14
            case h14 => go_simp; try with_reducible rfl
            simp only [zt,zs,zz,Act.put,zi,zy,zx]
            refine qtk (i := 8) (v := ?v15) rfl rfl (fun w' hw' => ?h15) hH ?r15
            case h15 => go_simp; try with_reducible rfl
            simp only [zt,zs,zz,Act.put,zi,zy,zx]
            refine qtk (i := 9) (v := ?v16) rfl rfl (fun w' hw' => ?h16) hH ?r16
            case h16 => (obtain ⟨⟨e0, e1, e2, e3, e4⟩, e20, e21, e22, e23, e24⟩ := HC.out w' hw'; go_simp); try with_reducible rfl
            simp only [zt,zs,zz,Act.put,zi,zy,zx]
            refine qtk (i := 11) (v := ?v17) rfl rfl (fun w' hw' => ?h17) hH ?r17
            case h17 => go_simp; try with_reducible rfl
            simp only [zt,zs,zz,Act.put,zi,zy,zx]
            refine qtk (i := 13) (v := ?v18) rfl rfl (fun w' hw' => ?h18) hH ?r18
            case h18 => go_simp; try with_reducible rfl
            simp only [zt,zs,zz,Act.put,zi,zy,zx]
            refine qtk (i := 14) (v := ?v19) rfl rfl (fun w' hw' => ?h19) hH ?r19
            case h19 => go_simp; try with_reducible rfl
            simp only [zt,zs,zz,Act.put,zi,zy,zx]
            refine qtk (i := 15) (v := ?v20) rfl rfl (fun w' hw' => ?h20) hH ?r20
            case h20 => go_simp; try with_reducible rfl
            simp only [zt,zs,zz,Act.put,zi,zy,zx]
            refine qtk (i := 16) (v := ?v21) rfl rfl (fun w' hw' => ?h21) hH ?r21
            case h21 => (obtain ⟨⟨e0, e1, e2, e3, e4⟩, e20, e21, e22, e23, e24⟩ := HC.out w' hw'; go_simp); try with_reducible rfl
            simp only [zt,zs,zz,Act.put,zi,zy,zx]
            refine qtk (i := 17) (v := ?v22) rfl rfl (fun w' hw' => ?h22) hH ?r22
            case h22 => go_simp; try with_reducible rfl
            simp only [zt,zs,zz,Act.put,zi,zy,zx]
            refine qtk (i := 18) (v := ?v23) rfl rfl (fun w' hw' => ?h23) hH ?r23
            case h23 => go_simp; try with_reducible rfl
            simp only [zt,zs,zz,Act.put,zi,zy,zx]
            refine qtk (i := 19) (v := ?v24) rfl rfl (fun w' hw' => ?h24) hH ?r24
            case h24 => go_simp; try with_reducible rfl
            simp only [zt,zs,zz,Act.put,zi,zy,zx]
            refine qtk (i := 20) (v := ?v25) rfl rfl (fun w' hw' => ?h25) hH ?r25
            case h25 => (obtain ⟨⟨e0, e1, e2, e3, e4⟩, e20, e21, e22, e23, e24⟩ := HC.out w' hw'; go_simp); try with_reducible rfl
            simp only [zt,zs,zz,Act.put,zi,zy,zx]
            refine wpAnyH_ready (rs := [1]) (by kernel_rfl) (by simp) ?_
            refine (AllReadyH.cons rfl (fun K hK => ?_) AllReadyH.nil)
            go_simp
            refine (FL.out V).mono ?_
            rintro e v1 ⟨lq, rfl, hlq, hb, hlb⟩
            obtain ⟨lqo, lqc, rfl⟩ := hlq.form
            have hH := hH.trans (hb.mono (by omega))
            have hs1 := hb.size
            have HLQ := qh hlq
            clear hlq hb hlb
            refine hK.out _ _ hH (fun hH => ?_)
            clear hK K
            try simp only [zt,zs,zz,Act.put,zi,zy,zx]
            refine wpAnyH_ready (rs := [10]) (by kernel_rfl) (by simp) ?_
            refine (AllReadyH.cons rfl (fun K hK => ?_) AllReadyH.nil)
            go_simp
            have hLP := Dt.At.low _ _ (Dt.At.keeps (Keeps.of_below hH) _ _ HAT.out)
            have hLT := Dt.At.low _ _ (Dt.At.keeps (Keeps.of_below hH) _ _ HAT2.out)
            have FC := qh (check_any LL (.slice lqo LL.length lqc) pj tj _ _ v1 HLQ.out HLL.out.1 HLL.out.2 hLP hLT HPJ.out.1 HTJ.out.1 HPJ.out.2 HTJ.out.2)
            clear hLP hLT
            refine FC.out.mono ?_
            rintro e v10 ⟨rfl, hb⟩
            obtain ⟨n9, hn9⟩ : ∃ n, n = chkD LL pj tj := ⟨_, rfl⟩
            rw [← hn9]
            have HN9 := qh hn9
            have hH := hH.trans (hb.mono (by omega))
            have hs10 := hb.size
            clear hb hn9 FC
            refine hK.out _ _ hH (fun hH => ?_)
            clear hK K
            try simp only [zt,zs,zz,Act.put,zi,zy,zx]
            refine wpAnyH_ready (rs := [12]) (by kernel_rfl) (by simp) ?_
            refine (AllReadyH.cons rfl (fun K hK => ?_) AllReadyH.nil)
            go_simp
            refine (FL.out v10).mono ?_
            rintro e v12 ⟨lr, rfl, hlr, hb, hlb⟩
            obtain ⟨lro, lrc, rfl⟩ := hlr.form
            have hH := hH.trans (hb.mono (by omega))
            have hs12 := hb.size
            have HLR := qh hlr
            have HLRB := qh hlb
            clear hlr hb hlb
            refine hK.out _ _ hH (fun hH => ?_)
            clear hK K
            try simp only [zt,zs,zz,Act.put,zi,zy,zx]
            refine wpAnyH_ready (rs := [21]) (by kernel_rfl) (by simp) ?_
            refine (AllReadyH.cons rfl (fun K hK => ?_) AllReadyH.nil)
            go_simp
            have hLP := Dt.At.low _ _ (Dt.At.keeps (Keeps.of_below hH) _ _ HAT.out)
            have hLT := Dt.At.low _ _ (Dt.At.keeps (Keeps.of_below hH) _ _ HAT2.out)
            have FC := qh (refcheck_any v12.heap.size pj tj _ _ LL (.slice lro LL.length lrc) v12 (Nat.le_refl _) hLP hLT HLR.out HLRB.out HLL.out.1 (Nat.le_trans HPJ.out.2 (by decide)) (Nat.le_trans HTJ.out.2 (by decide)))
            rw [← chk_is _ _ _ HTJ.out.1, ← HN9.out] at FC
            clear hLP hLT
            refine FC.out.mono ?_
            rintro e v21 ⟨rfl, hb⟩
            have hH := hH.trans (hb.mono (by omega))
            have hs21 := hb.size
            clear hb FC
            refine hK.out _ _ hH (fun hH => ?_)
            clear hK K
            try simp only [zt,zs,zz,Act.put,zi,zy,zx]
            refine qtk (i := 22) (v := ?v26) rfl rfl (fun w' hw' => ?h26) hH ?r26
            case h26 => go_simp; try with_reducible rfl
            simp only [zt,zs,zz,Act.put,zi,zy,zx]
            refine wpAnyH_done (by kernel_rfl) ?_ _
            refine NoPanic.normal ?_
            have hEnd := qh hH
            clear hH
            go_wp2_with fail
            go_roundw
            case rel => exact ⟨k + 1, by omega, by go_num, HBS.out.trans (hEnd.out.mono HBS.out.size)⟩
            case measure => simp [intOf]; omega
          · obtain rfl : k = T.length := by omega
            have q2 : decide ((T.length : Int) < (T.length : Int)) = false := decide_eq_false (by omega)
            go_wp2_with fail
            go_roundw
            case rel => exact ⟨i + 1, by omega, by go_num, HBS.out⟩
            case measure => simp [intOf]; omega
      · obtain rfl : i = P.length := by omega
        have q1 : decide ((P.length : Int) < (P.length : Int)) = false := decide_eq_false (by omega)
        go_wp2_with fail
        go_ret
        exact ⟨rfl, BB9.out.trans (HBR.out.mono BB9.out.size)⟩
  · obtain ⟨nm, hnm⟩ : ∃ nm, M.length = nm + 1 := ⟨M.length - 1, by omega⟩
    have hM1 : 0 < M.length := by omega
    obtain ⟨gm, om, km, tm, mvm, lvm, pm, hem, hSm, _, hatm, e0, e1, e2, e3, e4, om1, om2⟩ := HM6.out.get 0 hM1
    have HW0 := qh (HMW.out M[0] (List.getElem_mem hM1))
    obtain ⟨d0, hd0⟩ : ∃ d, d = M[0] := ⟨_, rfl⟩
    rw [← hd0] at hatm HW0
    simp only [Nat.zero_mul, Nat.add_zero] at e0 e1 e2 e3 e4
    have hw6Z : Below w6.heap.size w6 Z := HB60.out.trans (HEZ.out.mono (by omega))
    have HCM : Hid (∀ W, Below w6.heap.size w6 W → W.cell? ⟨gm, om, none⟩ = some (.int .i64 km) ∧ W.cell? ⟨gm, om + 1, none⟩ = some (.string tm) ∧ W.cell? ⟨gm, om + 2, none⟩ = some mvm ∧ W.cell? ⟨gm, om + 3, none⟩ = some lvm ∧ W.cell? ⟨gm, om + 4, none⟩ = some (.int .i64 pm)) := by
      intro W h
      exact ⟨cell_below h e0, cell_below h e1, cell_below h e2, cell_below h e3, cell_below h e4⟩
    have HATM := qh hatm
    rw [hnm] at HC8 ⊢
    have HDL : Hid (∀ K9 : List Dt, K9 = [Dt.mk 4 ⟨#[]⟩ [] M 0, oneOf (mT kt), oneOf (pT kt')] ++ [d0] → ∀ d ∈ K9, d.wf ∧ d.size ≤ 9000) := by
      intro K9 hK d hd
      subst hK
      simp only [List.mem_append, List.mem_cons, List.not_mem_nil, or_false] at hd
      rcases hd with (rfl | rfl | rfl) | rfl
      · exact HGB.out
      · exact ⟨HW3.out, by omega⟩
      · exact ⟨HW4.out, by omega⟩
      · exact HW0.out
    have HDP : Hid (∀ K9 : List Dt, K9 = [Dt.mk 4 ⟨#[]⟩ [] (Rw.makes l) 0, oneOf (pT kp), oneOf (mT kp')] ++ [d0] → ∀ d ∈ K9, d.wf ∧ d.size ≤ 9000) := by
      intro K9 hK d hd
      subst hK
      simp only [List.mem_append, List.mem_cons, List.not_mem_nil, or_false] at hd
      rcases hd with (rfl | rfl | rfl) | rfl
      · exact HGA.out
      · exact ⟨HW1.out, by omega⟩
      · exact ⟨HW2.out, by omega⟩
      · exact HW0.out
    subst hem
    have d8 := HC8.out Z (Below.refl _ _)
    obtain ⟨c0, c1, c2, c3, c4'⟩ := HCM.out Z hw6Z
    have hbA := (Below.refl Z.heap.size Z).alloc (Nat.le_refl _) (.cells #[.int .i64 km, .string tm, mvm, lvm, .int .i64 pm] 29)
    obtain ⟨xsT, hoT, hmT⟩ := OwnS.more9 (d := d0) (HOT.out.below hbA) rfl (Dt.At.mono (fun g h => .inl h) _ _ (Dt.At.keeps (Keeps.of_below (hw6Z.trans (hbA.mono hw6Z.size))) _ _ HATM.out)) (fun x hx h => by simp only [Value.ownBlock, Option.some.injEq] at hx; subst hx; omega)
    have HXT := qh hoT
    have HMT := qh hmT
    have HBA := qh hbA
    have HZ6 := qh hw6Z
    clear hnm hM1 e0 e1 e2 e3 e4 hatm hd0 h0 hoT hmT hbA hw6Z hSm
    go_upto_region 10 with (refine wpList_wanted (by rfl) fun K hK => ?_; refine wp_app (Operand.tmp 53) (Operand.tmp 58) rfl 0 (.slice (some ⟨gT, 0, none⟩) 3 3) 3 xsT rfl HXT.out Z.heap.size 1 rfl [.int .i64 km, .string tm, mvm, lvm, .int .i64 pm] rfl (fun i u hu => by rw [Lib.cell_of_heap (alloc_at Z (.cells #[.int .i64 km, .string tm, mvm, lvm, .int .i64 pm] 29))]; simpa using hu) (by simp; exact ⟨rfl, rfl, om1, om2, rfl⟩) (by decide) (Nat.zero_le _) ?_; intro vT wA hownT hgT9 hvT; have HRT := qh (HMT.out vT wA hownT hgT9); have HGT9 := qh hgT9; have HVT := qh hvT; clear hownT hgT9 hvT; refine hK _ _ ?_; clear hK K)
    have hzA : Below Y.heap.size Z wA := ⟨HGT9.out.os.trans HBA.out.os, HGT9.out.tape.trans HBA.out.tape, HGT9.out.output.trans HBA.out.output, Nat.le_trans HBA.out.size HGT9.out.size, fun x hx => (HGT9.out.block x (by have := HBA.out.size; omega) (fun e => by simp only [Value.ownBlock, Option.some.injEq] at e; omega)).trans (HBA.out.block x (by omega))⟩
    have HZA := qh hzA
    have hw6A : Below w6.heap.size w6 wA := HZ6.out.trans (hzA.mono (by omega))
    have d9 : wA.cell? ⟨w6.heap.size + 1, 3, none⟩ = some (.slice (some ⟨gm, om, none⟩) (nm + 1) c6) := (hzA.cell (by show w6.heap.size + 1 < Y.heap.size; omega)).trans d8
    obtain ⟨z0, z1, z2, z3, z4⟩ := HCM.out wA hw6A
    have hbB := (Below.refl wA.heap.size wA).alloc (Nat.le_refl _) (.cells #[.int .i64 km, .string tm, mvm, lvm, .int .i64 pm] 29)
    have hOPA := OwnS.keep HOP7.out (fun x c hx hc => by simp only [Value.ownBlock, Option.some.injEq] at hx; subst hx; exact (hzA.block _ (by omega)).trans hc) (fun g c T fz hs hg hT => keeps_low hzA g c T fz (by have : g < gP := hs; show g < Y.heap.size; omega) hg hT)
    obtain ⟨xsP, hoP, hmP⟩ := OwnS.more9 (d := d0) (hOPA.below hbB) rfl (Dt.At.mono (fun g (h : g < w6.heap.size) => by show g < gP; omega) _ _ (Dt.At.keeps (Keeps.of_below (hw6A.trans (hbB.mono hw6A.size))) _ _ HATM.out)) (fun x hx h => by simp only [Value.ownBlock, Option.some.injEq] at hx; subst hx; have : gP < gP := h; omega)
    have HXP := qh hoP
    have HMP := qh hmP
    have HBB := qh hbB
    have HW6A := qh hw6A
    clear hoP hmP hbB hw6A hOPA hzA
    go_wp2_with (refine wpList_wanted (by rfl) fun K hK => ?_; refine wp_app (Operand.tmp 60) (Operand.tmp 65) rfl 0 (.slice (some ⟨gP, 0, none⟩) 3 3) 3 xsP rfl HXP.out wA.heap.size 1 rfl [.int .i64 km, .string tm, mvm, lvm, .int .i64 pm] rfl (fun i u hu => by rw [Lib.cell_of_heap (alloc_at wA (.cells #[.int .i64 km, .string tm, mvm, lvm, .int .i64 pm] 29))]; simpa using hu) (by simp; exact ⟨rfl, rfl, om1, om2, rfl⟩) (by decide) (Nat.zero_le _) ?_; intro vP Z9 hownP hgP9 hvP; have HRP := qh (HMP.out vP Z9 hownP hgP9); have HGP9 := qh hgP9; have HVP := qh hvP; clear hownP hgP9 hvP; refine hK _ _ ?_; clear hK K)
    have hzB : Below X.heap.size wA Z9 := ⟨HGP9.out.os.trans HBB.out.os, HGP9.out.tape.trans HBB.out.tape, HGP9.out.output.trans HBB.out.output, Nat.le_trans HBB.out.size HGP9.out.size, fun x hx => (HGP9.out.block x (by have := HBB.out.size; have := HZA.out.size; omega) (fun e => by simp only [Value.ownBlock, Option.some.injEq] at e; omega)).trans (HBB.out.block x (by have := HZA.out.size; omega))⟩
    have hOT9 := OwnS.keep (HRT.out.below HBB.out) (fun x c hx hc => (HGP9.out.block x (by have := (Array.getElem?_eq_some_iff.1 hc).1; omega) (fun e => by
        simp only [Value.ownBlock, Option.some.injEq] at e
        rcases HVT.out with h | h
        · rw [h] at hx; simp only [Value.ownBlock, Option.some.injEq] at hx; omega
        · rw [h] at hx; injection hx with hx; have := HBA.out.size; omega)).trans hc) (Keeps.of_grown HGP9.out (fun g hs e => by
        simp only [Value.ownBlock, Option.some.injEq] at e
        rcases hs with h | h <;> omega))
    have HLP := qh (HRP.out.low9)
    have HLT := qh (hOT9.low9)
    have BB9 := qh ((BBZ.out.trans (HZA.out.mono (by have := BB.out.size; omega))).trans (hzB.mono (by have := BB.out.size; omega)))
    clear hzB hOT9 HRP HRT HGP9 HVP HVT HGT9 HOT HOP7 HC8 HM6 HCM d8 d9 c0 c1 c2 c3 c4' z0 z1 z2 z3 z4
    obtain ⟨P, hP⟩ : ∃ P, P = [Dt.mk 4 ⟨#[]⟩ [] (Rw.makes l) 0, oneOf (pT kp), oneOf (mT kp')] ++ [d0] := ⟨_, rfl⟩
    obtain ⟨T, hT⟩ : ∃ T, T = [Dt.mk 4 ⟨#[]⟩ [] M 0, oneOf (mT kt), oneOf (pT kt')] ++ [d0] := ⟨_, rfl⟩
    rw [← hP] at HLP
    rw [← hT] at HLT
    have HGP := qh (HDP.out P hP)
    have HGT := qh (HDL.out T hT)
    have hPl : P.length ≤ 100 := by rw [hP]; simp
    have hTl : T.length ≤ 100 := by rw [hT]; simp
    obtain ⟨oP, cP, hv1⟩ := HLP.out.form
    obtain ⟨oT, cT, hv2⟩ := HLT.out.form
    subst hv1; subst hv2
    clear hP hT
    go_wp2_with fail
    go_loopw [15, 16] (fun iv kv wr => ∃ i : Nat, i ≤ P.length ∧ iv = .int .i64 (i : Int) ∧ Below Z9.heap.size Z9 wr) (fun iv _ _ => P.length - (intOf iv).toNat)
    case atStart => exact ⟨0, Nat.zero_le _, rfl, Below.refl _ _⟩
    case round =>
      obtain ⟨i, hi, rfl, hbr⟩ := hrel
      have HBR := qh hbr
      clear hbr
      obtain ⟨wo, rfl⟩ : ∃ wo, wo = wr := ⟨_, rfl⟩
      by_cases hlt : i < P.length
      · have q1 : decide ((i : Int) < (P.length : Int)) = true := decide_eq_true (by omega)
        go_wp2_with fail
        go_loopw [16] (fun kv wr2 => ∃ k : Nat, k ≤ T.length ∧ kv = .int .i64 (k : Int) ∧ Below Z9.heap.size Z9 wr2) (fun kv _ => T.length - (intOf kv).toNat)
        case atStart => exact ⟨0, Nat.zero_le _, rfl, HBR.out⟩
        case round =>
          obtain ⟨k, hk, rfl, hbr2⟩ := hrel
          have HBS := qh hbr2
          clear hbr2
          by_cases hlt2 : k < T.length
          · have q2 : decide ((k : Int) < (T.length : Int)) = true := decide_eq_true (by omega)
            obtain ⟨g1, f1, a1, b1, m1, r1, z1, he1, hS1, _, hat1, e0, e1, e2, e3, e4, x1, y1⟩ := (HLP.out.keeps (Keeps.of_below HBS.out)).get i hlt
            obtain ⟨g2, f2, a2, b2, m2, r2, z2, he2, hS2, _, hat2, e20, e21, e22, e23, e24, x2, y2⟩ := (HLT.out.keeps (Keeps.of_below HBS.out)).get k hlt2
            first | subst he1 | (simp only [Option.some.injEq, Addr.mk.injEq, and_true] at he1; obtain ⟨rfl, rfl⟩ := he1)
            first | subst he2 | (simp only [Option.some.injEq, Addr.mk.injEq, and_true] at he2; obtain ⟨rfl, rfl⟩ := he2)
            have hpj := HGP.out P[i] (List.getElem_mem hlt)
            have htj := HGT.out T[k] (List.getElem_mem hlt2)
            obtain ⟨pj, hp9⟩ : ∃ d, d = P[i] := ⟨_, rfl⟩
            obtain ⟨tj, ht9⟩ : ∃ d, d = T[k] := ⟨_, rfl⟩
            rw [← hp9] at hat1 hpj
            rw [← ht9] at hat2 htj
            have HPJ := qh hpj
            have HTJ := qh htj
            have HAT := qh hat1
            have HAT2 := qh hat2
            have HC : Hid (∀ w', Below wr.heap.size wr w' → (w'.cell? ⟨g1, f1 + i * 5, none⟩ = some (.int .i64 a1) ∧ w'.cell? ⟨g1, f1 + i * 5 + 1, none⟩ = some (.string b1) ∧ w'.cell? ⟨g1, f1 + i * 5 + 2, none⟩ = some m1 ∧ w'.cell? ⟨g1, f1 + i * 5 + 3, none⟩ = some r1 ∧ w'.cell? ⟨g1, f1 + i * 5 + 4, none⟩ = some (.int .i64 z1)) ∧
                w'.cell? ⟨g2, f2 + k * 5, none⟩ = some (.int .i64 a2) ∧ w'.cell? ⟨g2, f2 + k * 5 + 1, none⟩ = some (.string b2) ∧ w'.cell? ⟨g2, f2 + k * 5 + 2, none⟩ = some m2 ∧ w'.cell? ⟨g2, f2 + k * 5 + 3, none⟩ = some r2 ∧ w'.cell? ⟨g2, f2 + k * 5 + 4, none⟩ = some (.int .i64 z2)) := by
              intro w' h
              exact ⟨⟨cell_below h e0, cell_below h e1, cell_below h e2, cell_below h e3, cell_below h e4⟩, cell_below h e20, cell_below h e21, cell_below h e22, cell_below h e23, cell_below h e24⟩
            clear e0 e1 e2 e3 e4 e20 e21 e22 e23 e24 hat1 hat2 hpj htj hp9 ht9 hS1 hS2
            go_upto_region 17 with fail
            refine wp_region_noPanic ?_
            refine wp_region_held_drew (S := Below wr.heap.size wr) (by kernel_rfl) ((Below.refl _ _).drew) (fun hH => ?_)
            have hsd : wr.drew.heap.size = wr.heap.size := rfl
            generalize wr.drew = V at hH hsd ⊢
            refine qtk (i := 0) (v := ?v27) rfl rfl (fun w' hw' => ?h27) hH ?r27
            case h27 => go_simp; try with_reducible rfl
            simp only [zt,zs,zz,Act.put,zi,zy,zx]
            refine qtk (i := 2) (v := ?v28) rfl rfl (fun w' hw' => ?h28) hH ?r28
            case h28 => go_simp; try with_reducible rfl
            simp only [zt,zs,zz,Act.put,zi,zy,zx]
            refine qtk (i := 3) (v := ?v29) rfl rfl (fun w' hw' => ?h29) hH ?r29
            case h29 => go_simp; try with_reducible rfl
            simp only [zt,zs,zz,Act.put,zi,zy,zx]
            refine qtk (i := 4) (v := ?v30) rfl rfl (fun w' hw' => ?h30) hH ?r30
            case h30 => go_simp; try with_reducible rfl
            simp only [zt,zs,zz,Act.put,zi,zy,zx]
            refine qtk (i := 5) (v := ?v31) rfl rfl (fun w' hw' => ?h31) hH ?r31
            case h31 => (obtain ⟨⟨e0, e1, e2, e3, e4⟩, e20, e21, e22, e23, e24⟩ := HC.out w' hw'; go_simp); try with_reducible rfl
            simp only [zt,zs,zz,Act.put,zi,zy,zx]
            refine qtk (i := 6) (v := ?v32) rfl rfl (fun w' hw' => ?h32) hH ?r32
            case h32 => go_simp; try with_reducible rfl
            simp only [zt,zs,zz,Act.put,zi,zy,zx]
            refine qtk (i := 7) (v := ?v33) rfl rfl (fun w' hw' => ?h33) hH ?r33
            case h33 => go_simp; try with_reducible rfl
            simp only [zt,zs,zz,Act.put,zi,zy,zx]
            refine qtk (i := 8) (v := ?v34) rfl rfl (fun w' hw' => ?h34) hH ?r34
            case h34 => go_simp; try with_reducible rfl
            simp only [zt,zs,zz,Act.put,zi,zy,zx]
            refine qtk (i := 9) (v := ?v35) rfl rfl (fun w' hw' => ?h35) hH ?r35
            case h35 => (obtain ⟨⟨e0, e1, e2, e3, e4⟩, e20, e21, e22, e23, e24⟩ := HC.out w' hw'; go_simp); try with_reducible rfl
            simp only [zt,zs,zz,Act.put,zi,zy,zx]
            refine qtk (i := 11) (v := ?v36) rfl rfl (fun w' hw' => ?h36) hH ?r36
            case h36 => go_simp; try with_reducible rfl
            simp only [zt,zs,zz,Act.put,zi,zy,zx]
            refine qtk (i := 13) (v := ?v37) rfl rfl (fun w' hw' => ?h37) hH ?r37
            case h37 => go_simp; try with_reducible rfl
            simp only [zt,zs,zz,Act.put,zi,zy,zx]
            refine qtk (i := 14) (v := ?v38) rfl rfl (fun w' hw' => ?h38) hH ?r38
            case h38 => go_simp; try with_reducible rfl
            simp only [zt,zs,zz,Act.put,zi,zy,zx]
            refine qtk (i := 15) (v := ?v39) rfl rfl (fun w' hw' => ?h39) hH ?r39
            case h39 => go_simp; try with_reducible rfl
            simp only [zt,zs,zz,Act.put,zi,zy,zx]
            refine qtk (i := 16) (v := ?v40) rfl rfl (fun w' hw' => ?h40) hH ?r40
            case h40 => (obtain ⟨⟨e0, e1, e2, e3, e4⟩, e20, e21, e22, e23, e24⟩ := HC.out w' hw'; go_simp); try with_reducible rfl
            simp only [zt,zs,zz,Act.put,zi,zy,zx]
            refine qtk (i := 17) (v := ?v41) rfl rfl (fun w' hw' => ?h41) hH ?r41
            case h41 => go_simp; try with_reducible rfl
            simp only [zt,zs,zz,Act.put,zi,zy,zx]
            refine qtk (i := 18) (v := ?v42) rfl rfl (fun w' hw' => ?h42) hH ?r42
            case h42 => go_simp; try with_reducible rfl
            simp only [zt,zs,zz,Act.put,zi,zy,zx]
            refine qtk (i := 19) (v := ?v43) rfl rfl (fun w' hw' => ?h43) hH ?r43
            case h43 => go_simp; try with_reducible rfl
            simp only [zt,zs,zz,Act.put,zi,zy,zx]
            refine qtk (i := 20) (v := ?v44) rfl rfl (fun w' hw' => ?h44) hH ?r44
            case h44 => (obtain ⟨⟨e0, e1, e2, e3, e4⟩, e20, e21, e22, e23, e24⟩ := HC.out w' hw'; go_simp); try with_reducible rfl
            simp only [zt,zs,zz,Act.put,zi,zy,zx]
            refine wpAnyH_ready (rs := [1]) (by kernel_rfl) (by simp) ?_
            refine (AllReadyH.cons rfl (fun K hK => ?_) AllReadyH.nil)
            go_simp
            refine (FL.out V).mono ?_
            rintro e v1 ⟨lq, rfl, hlq, hb, hlb⟩
            obtain ⟨lqo, lqc, rfl⟩ := hlq.form
            have hH := hH.trans (hb.mono (by omega))
            have hs1 := hb.size
            have HLQ := qh hlq
            clear hlq hb hlb
            refine hK.out _ _ hH (fun hH => ?_)
            clear hK K
            try simp only [zt,zs,zz,Act.put,zi,zy,zx]
            refine wpAnyH_ready (rs := [10]) (by kernel_rfl) (by simp) ?_
            refine (AllReadyH.cons rfl (fun K hK => ?_) AllReadyH.nil)
            go_simp
            have hLP := Dt.At.low _ _ (Dt.At.keeps (Keeps.of_below hH) _ _ HAT.out)
            have hLT := Dt.At.low _ _ (Dt.At.keeps (Keeps.of_below hH) _ _ HAT2.out)
            have FC := qh (check_any LL (.slice lqo LL.length lqc) pj tj _ _ v1 HLQ.out HLL.out.1 HLL.out.2 hLP hLT HPJ.out.1 HTJ.out.1 HPJ.out.2 HTJ.out.2)
            clear hLP hLT
            refine FC.out.mono ?_
            rintro e v10 ⟨rfl, hb⟩
            obtain ⟨n9, hn9⟩ : ∃ n, n = chkD LL pj tj := ⟨_, rfl⟩
            rw [← hn9]
            have HN9 := qh hn9
            have hH := hH.trans (hb.mono (by omega))
            have hs10 := hb.size
            clear hb hn9 FC
            refine hK.out _ _ hH (fun hH => ?_)
            clear hK K
            try simp only [zt,zs,zz,Act.put,zi,zy,zx]
            refine wpAnyH_ready (rs := [12]) (by kernel_rfl) (by simp) ?_
            refine (AllReadyH.cons rfl (fun K hK => ?_) AllReadyH.nil)
            go_simp
            refine (FL.out v10).mono ?_
            rintro e v12 ⟨lr, rfl, hlr, hb, hlb⟩
            obtain ⟨lro, lrc, rfl⟩ := hlr.form
            have hH := hH.trans (hb.mono (by omega))
            have hs12 := hb.size
            have HLR := qh hlr
            have HLRB := qh hlb
            clear hlr hb hlb
            refine hK.out _ _ hH (fun hH => ?_)
            clear hK K
            try simp only [zt,zs,zz,Act.put,zi,zy,zx]
            refine wpAnyH_ready (rs := [21]) (by kernel_rfl) (by simp) ?_
            refine (AllReadyH.cons rfl (fun K hK => ?_) AllReadyH.nil)
            go_simp
            have hLP := Dt.At.low _ _ (Dt.At.keeps (Keeps.of_below hH) _ _ HAT.out)
            have hLT := Dt.At.low _ _ (Dt.At.keeps (Keeps.of_below hH) _ _ HAT2.out)
            have FC := qh (refcheck_any v12.heap.size pj tj _ _ LL (.slice lro LL.length lrc) v12 (Nat.le_refl _) hLP hLT HLR.out HLRB.out HLL.out.1 (Nat.le_trans HPJ.out.2 (by decide)) (Nat.le_trans HTJ.out.2 (by decide)))
            rw [← chk_is _ _ _ HTJ.out.1, ← HN9.out] at FC
            clear hLP hLT
            refine FC.out.mono ?_
            rintro e v21 ⟨rfl, hb⟩
            have hH := hH.trans (hb.mono (by omega))
            have hs21 := hb.size
            clear hb FC
            refine hK.out _ _ hH (fun hH => ?_)
            clear hK K
            try simp only [zt,zs,zz,Act.put,zi,zy,zx]
            refine qtk (i := 22) (v := ?v45) rfl rfl (fun w' hw' => ?h45) hH ?r45
            case h45 => go_simp; try with_reducible rfl
            simp only [zt,zs,zz,Act.put,zi,zy,zx]
            refine wpAnyH_done (by kernel_rfl) ?_ _
            refine NoPanic.normal ?_
            have hEnd := qh hH
            clear hH
            go_wp2_with fail
            go_roundw
            case rel => exact ⟨k + 1, by omega, by go_num, HBS.out.trans (hEnd.out.mono HBS.out.size)⟩
            case measure => simp [intOf]; omega
          · obtain rfl : k = T.length := by omega
            have q2 : decide ((T.length : Int) < (T.length : Int)) = false := decide_eq_false (by omega)
            go_wp2_with fail
            go_roundw
            case rel => exact ⟨i + 1, by omega, by go_num, HBS.out⟩
            case measure => simp [intOf]; omega
      · obtain rfl : i = P.length := by omega
        have q1 : decide ((P.length : Int) < (P.length : Int)) = false := decide_eq_false (by omega)
        go_wp2_with fail
        go_ret
        exact ⟨rfl, BB9.out.trans (HBR.out.mono BB9.out.size)⟩
end Go.Proofs.Ythhaegncnoekbaa
