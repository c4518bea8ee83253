/- Make, at uses of functions. -/
import Derived.Test.YtmcgocbkjdacaaaDoorZD
namespace Go.Proofs.YtmcgocbkjdacaaaDoor
open Go.RowKit Go.BigM
set_option linter.unusedVariables false
set_option linter.unusedSimpArgs false
theorem info53 : (Tryd.prog.info? 53).map (·.size) = some 3 := by kernel_rfl
theorem But2.drew2 (B g h : Nat) (w : World) : But2 B g h w w.drew := ⟨rfl, rfl, rfl, Nat.le_refl _, fun _ _ _ _ => rfl⟩
theorem row_cells (w : World) (cs : Array Value) : ∀ (i : Nat) u, cs.toList[i]? = some u → (w.alloc (.cells cs 28)).cell? ⟨w.heap.size, i, none⟩ = some u := by
  intro i u hu
  rw [Lib.cell_of_heap (alloc_at w _)]
  simpa using hu
theorem one_cells {k : Int} {t : ByteArray} {nv av : Value} (h : nv.oneCell' = true ∧ av.oneCell' = true) : ∀ u ∈ (#[.int .i64 k, .string t, nv, av] : Array Value).toList, u.oneCell' = true := by
  intro u hu
  simp at hu
  rcases hu with rfl | rfl | rfl | rfl
  · rfl
  · rfl
  · exact h.1
  · exact h.2
/-- The term is laid in the result's block. -/
theorem made_exit {sc ns : List ByteArray} {g m a m' c s : Nat} {w wr : World} {kk : Int} {tt : ByteArray} {nv av : Value} {l : List Et} (hz : wr.heap[w.heap.size + 1]? = some (.cells Z4 28 (0, 0)))
    (hnv : NAt (fun x => w.heap.size + 2 ≤ x) wr nv ns) (hav : AAt (fun x => w.heap.size + 2 ≤ x) wr av l) (hM : Made sc m m' (.mk kk tt ns l)) (hs : 1 + Et.sizes l ≤ s) (hc : m' ≤ m + c) (hmk : Mk wr g m') (hb : But w.heap.size g w wr) (hg : g < w.heap.size) :
    (#[.int .i64 kk, .string tt, nv, av] : Array Value).all (·.oneCell') = true ∧ RetMade sc g m c s w (.returned (.agg #[.int .i64 kk, .string tt, nv, av])) (wr.setRow (w.heap.size + 1) #[.int .i64 kk, .string tt, nv, av]) := by
  have o1 := hnv.one
  have o2 := hav.one
  refine ⟨by simp [Value.oneCell'] at o1 o2 ⊢; exact ⟨o1, o2⟩, _, _, m', rfl, ?_, hM, by simpa [Et.size] using hs, hc, ?_, hb.setRow _ _ (by omega)⟩
  · have hat : Et.At (fun x => w.heap.size + 2 ≤ x) wr (.mk kk tt ns l) #[.int .i64 kk, .string tt, nv, av] := by rw [EAt_mk]; exact ⟨_, _, rfl, hnv, hav⟩
    refine Et.At.mono (fun x hx => by have : w.heap.size + 2 ≤ x := hx; omega) _ _ (Et.At.keeps ?_ _ _ hat)
    intro x cs2 T fz hx2 hxx _
    have : w.heap.size + 2 ≤ x := hx2
    exact ⟨fz, by rw [setRow_other wr _ x _ (by omega)]; exact hxx⟩
  · unfold Mk; rw [setRow_other wr _ g _ (by omega)]; exact hmk
set_option maxHeartbeats 8000000 in
set_option maxRecDepth 100000 in
theorem make6 (k n : Int) (pl : List Rw) (ih : ∀ r ∈ pl, MkC r) (w0 w : World) (g m : Nat) (sc : List ByteArray) (scv : Value) (P : Pre w0 w g m sc scv) (po : Option Addr) (pc : Nat) (hm : m + 2 * (1 + Rw.cnts pl) ≤ 50000) (hR : RsAt w0 po pl) (hk : I64 k) (hn : I64 n) (hq : k % 16 = 6) :
    Calls Tryd.prog 30 #[.pointer (some ⟨g, 0, none⟩), .agg #[.int .i64 k, .int .i64 n, .slice po pl.length pc], scv] w (RetMade sc g m (2 * (1 + Rw.cnts pl)) (4 * (1 + Rw.cnts pl)) w) := by
  have hb2 : Below w.heap.size w ((w.alloc (.cells #[.int .i64 k, .int .i64 n, .slice po pl.length pc] 53)).alloc (.cells Z4 28)) := ((Below.refl w.heap.size w).alloc (Nat.le_refl _) _).alloc (by simp) _
  have hz2 : ((w.alloc (.cells #[.int .i64 k, .int .i64 n, .slice po pl.length pc] 53)).alloc (.cells Z4 28)).heap[w.heap.size + 1]? = some (.cells Z4 28 (0, 0)) := by
    have h := alloc_at (w.alloc (.cells #[.int .i64 k, .int .i64 n, .slice po pl.length pc] 53)) (.cells Z4 28)
    have e : (w.alloc (.cells #[.int .i64 k, .int .i64 n, .slice po pl.length pc] 53)).heap.size = w.heap.size + 1 := by simp
    rw [e] at h; exact h
  have hs2 : ((w.alloc (.cells #[.int .i64 k, .int .i64 n, .slice po pl.length pc] 53)).alloc (.cells Z4 28)).heap.size = w.heap.size + 2 := by simp
  have hgw := P.cnt.lt
  have HB2 := Lib.hid hb2
  have HZ2 := Lib.hid hz2
  have HRW : Hid (((w.alloc (.cells #[.int .i64 k, .int .i64 n, .slice po pl.length pc] 53)).alloc (.cells Z4 28)).heap[w.heap.size]? = some (.cells #[.int .i64 k, .int .i64 n, .slice po pl.length pc] 53 (0, 0))) := (Lib.alloc_old _ _ _ (by simp)).trans (alloc_at w _)
  obtain ⟨so, sc1, rfl⟩ := P.scope.form
  have PP := Lib.hid P
  have hfew : sc.length ≤ 60000 := by have := P.few; omega
  have F0 := Lib.hid (fun w => within_is k 16 6 hk (by decide) (by decide) hq w)
  obtain ⟨r2, hr2⟩ : ∃ r : Nat, n % 2 = (r : Int) := ⟨(n % 2).toNat, by omega⟩
  have hr2l : r2 < 2 := by omega
  have F2 := Lib.hid (fun w => within_is n 2 r2 hn (by decide) (by decide) hr2 w)
  obtain ⟨qq, hqq⟩ : ∃ qq, qq = 2 + r2 := ⟨_, rfl⟩
  have hqi : (2 : Int) + (r2 : Int) = (qq : Int) := by omega
  have hq3 : qq ≤ 3 := by omega
  have hqs : 2 ≤ qq := by omega
  have IH := Lib.hid ih
  have HR := Lib.hid hR
  have HN := Lib.hid hn
  clear ih hb2 hz2 hq hk hn hr2 hR hqq
  go_enter Tryd.func30, Tryd.ntmps30
  go_wp2_with fail
  generalize (w.alloc (.cells #[.int .i64 k, .int .i64 n, .slice po pl.length pc] 53)).alloc (.cells #[.int .i64 0, .string ⟨#[]⟩, .slice none 0 0, .slice none 0 0] 28) = W2 at HB2 HZ2 hs2 HRW ⊢
  have cK : W2.cell? ⟨w.heap.size, 0, none⟩ = some (.int .i64 k) := by rw [Lib.cell_of_heap HRW.out]; rfl
  have cN : W2.cell? ⟨w.heap.size, 1, none⟩ = some (.int .i64 n) := by rw [Lib.cell_of_heap HRW.out]; rfl
  refine (F0.out _).mono ?_
  rintro e w5 ⟨rfl, rfl⟩
  have hz3 : (W2.alloc (.cells Z4 28)).heap[w.heap.size + 2]? = some (.cells Z4 28 (0, 0)) := by rw [← hs2]; exact alloc_at W2 _
  have HZ3 := Lib.hid hz3
  clear hz3
  go_upto_region 26 with (refine wpList_store_row rfl 28 _ _ rfl (w.heap.size + 2) #[.int .i64 7, .string ⟨#[]⟩, .slice none 0 0, .slice none 0 0] rfl rfl 28 Z4 HZ3.out info28 rfl rfl ?_)
  have he3 : (W2.alloc (.cells #[.int .i64 7, .string ⟨#[]⟩, .slice none 0 0, .slice none 0 0] 28)).heap[w.heap.size + 2]? = some (.cells #[.int .i64 7, .string ⟨#[]⟩, .slice none 0 0, .slice none 0 0] 28 (0, 0)) := by rw [← hs2]; exact alloc_at W2 _
  have hb3 : Below W2.heap.size W2 (W2.alloc (.cells #[.int .i64 7, .string ⟨#[]⟩, .slice none 0 0, .slice none 0 0] 28)) := (Below.refl _ _).alloc (Nat.le_refl _) _
  have hs3 : (W2.alloc (.cells #[.int .i64 7, .string ⟨#[]⟩, .slice none 0 0, .slice none 0 0] 28)).heap.size = w.heap.size + 3 := by simp [hs2]
  generalize W2.alloc (.cells #[.int .i64 7, .string ⟨#[]⟩, .slice none 0 0, .slice none 0 0] 28) = W0 at he3 hb3 hs3 ⊢
  have HB3 := Lib.hid (HB2.out.trans (hb3.mono HB2.out.size))
  have HRW3 := Lib.hid (row_below hb3 HRW.out)
  have HZ3b := Lib.hid (row_below hb3 HZ2.out)
  have P3 := Lib.hid (PP.out.below' HB3.out)
  obtain ⟨ge, hge⟩ : ∃ ge, ge = w.heap.size + 2 := ⟨_, rfl⟩
  rw [← hge] at he3
  simp only [← hge]
  have HE3 : Hid (EB W0 ge 7 ⟨#[]⟩ (.slice none 0 0) (.slice none 0 0)) := he3
  have hgeb : ge < W0.heap.size := by omega
  have hgb : g < W0.heap.size := by omega
  have hne : ge ≠ g := by omega
  have hbW : w.heap.size < W0.heap.size := by omega
  have hbg : w.heap.size ≠ g := by omega
  have hbe : w.heap.size ≠ ge := by omega
  have hge1 : w.heap.size + 1 ≠ ge := by omega
  have hgeW : w.heap.size ≤ ge := by omega
  have hWW : w.heap.size + 3 ≤ W0.heap.size := by omega
  have hgw0 : w0.heap.size ≤ ge := by have := PP.out.maker; omega
  have HGE := Lib.hid hge
  clear hge hs3
  clear he3 hb3 HZ3 HRW HB2 HZ2 cK cN hs2 F0
  have H0 : Hid (LA W0 g ge qq m pl sc 7 ⟨#[]⟩ (.slice none 0 0) (.int .i64 0) W0) := ⟨0, m, [], _, Nat.zero_le _, rfl, OwnA.nil _ _, HE3.out, MadeL.nil _ _, P3.out.cnt, rfl, by simp [Et.sizes], by omega, But2.refl _ _ _ _⟩
  go_wp2_with fail
  go_loopw [12] (fun iv wr => LA W0 g ge qq m pl sc 7 ⟨#[]⟩ (.slice none 0 0) iv wr) (fun iv _ => qq - (intOf iv).toNat)
  case atStart => exact H0.out
  case round =>
    clear H0
    obtain ⟨i, m', l, av, hi, rfl, hown, heb, hM, hmk, hl, hsz, hmm, hbut⟩ := hrel
    have hs0 := hbut.size
    have HRr : Hid (wr.heap[w.heap.size]? = some (.cells #[.int .i64 k, .int .i64 n, .slice po pl.length pc] 53 (0, 0))) := (hbut.block _ hbW hbg hbe).trans HRW3.out
    have cN : wr.cell? ⟨w.heap.size, 1, none⟩ = some (.int .i64 n) := by rw [Lib.cell_of_heap HRr.out]; rfl
    have HPr : Hid (Pre w0 wr g m' sc (.slice so sc.length sc1)) := P3.out.move2 hbut hmk hM.le ⟨_, _, HE3.out⟩ hgw0
    obtain ⟨ao, ac, rfl⟩ : ∃ ao ac, av = .slice ao i ac := by
      obtain ⟨xs, ho, _⟩ := hown
      rw [hl] at ho
      exact own_form ho
    go_wp2_with fail
    refine (F2.out _).mono ?_
    rintro e w6 ⟨rfl, rfl⟩
    by_cases hiq : i < qq
    · have q1 : decide ((i : Int) < (qq : Int)) = true := decide_eq_true (by omega)
      have c3 := (EB.cell _ _ _ _ _ _ heb).2.2.2
      have hi1 : i + 1 ≤ 1000000000 := by omega
      have hq5 : qq ≤ 100000 := by omega
      have hcl := cnts_take_le pl (i + 1)
      have hct := pcn_take pl i
      have HP := Lib.hid (part_any k n pl IH.out w0 wr.drew g m' sc _ (HPr.out.below' (Below.refl _ _).drew) po pc i (by omega) (by omega) HR.out HN.out)
      have HS0 : Hid (But2 W0.heap.size g ge wr wr.drew) := But2.drew2 _ _ _ _
      clear hcl hct
      go_upto_region 29 with fail
      refine wp_region_noPanic ?_
      refine wp_region_held_drew (S := But2 W0.heap.size g ge wr) (by kernel_rfl) (But2.drew2 _ _ _ _) (fun hHeld => ?_)
      refine wpAnyH_take (i := 0) (v := Value.pointer (some ⟨ge, 3, none⟩)) rfl (by kernel_rfl) (by kernel_rfl) (by kernel_rfl) (fun _ _ _ h => h) (Or.inl ⟨rfl, fun w' hw' => ?_⟩) hHeld ?_
      · go_simp
      simp only [List.getElem_toArray, List.getElem_cons_succ, List.getElem_cons_zero, Act.put, List.setIfInBounds_toArray, List.set_cons_zero, List.set_cons_succ]
      refine wpAnyH_take (i := 2) (v := Value.pointer (some ⟨g, 0, none⟩)) rfl (by kernel_rfl) (by kernel_rfl) (by kernel_rfl) (fun _ _ _ h => h) (Or.inl ⟨rfl, fun w' hw' => ?_⟩) hHeld ?_
      · go_simp
      simp only [List.getElem_toArray, List.getElem_cons_succ, List.getElem_cons_zero, Act.put, List.setIfInBounds_toArray, List.set_cons_zero, List.set_cons_succ]
      refine wpAnyH_take (i := 3) rfl (by kernel_rfl) (by kernel_rfl) (by kernel_rfl) (fun _ _ _ h => h) (yieldsIf_load_mid (by rfl) _ _ rfl w.heap.size 0 rfl [.int .i64 k, .int .i64 n, .slice po pl.length pc] _ (fun w' hw' => row_rangeB ((hw'.block w.heap.size hbW hbg hbe).trans HRr.out)) Tryd.underlying53 rfl info53) hHeld ?_
      simp only [List.getElem_toArray, List.getElem_cons_succ, List.getElem_cons_zero, Act.put, List.setIfInBounds_toArray, List.set_cons_zero, List.set_cons_succ]
      refine wpAnyH_take (i := 4) (v := Value.int .i64 (i : Int)) rfl (by kernel_rfl) (by kernel_rfl) (by kernel_rfl) (fun _ _ _ h => h) (Or.inl ⟨rfl, fun w' hw' => ?_⟩) hHeld ?_
      · go_simp
      simp only [List.getElem_toArray, List.getElem_cons_succ, List.getElem_cons_zero, Act.put, List.setIfInBounds_toArray, List.set_cons_zero, List.set_cons_succ]
      refine wpAnyH_take (i := 5) (v := Value.slice so sc.length sc1) rfl (by kernel_rfl) (by kernel_rfl) (by kernel_rfl) (fun _ _ _ h => h) (Or.inl ⟨rfl, fun w' hw' => ?_⟩) hHeld ?_
      · go_simp
      simp only [List.getElem_toArray, List.getElem_cons_succ, List.getElem_cons_zero, Act.put, List.setIfInBounds_toArray, List.set_cons_zero, List.set_cons_succ]
      refine wpAnyH_ready (rs := [1, 6]) (by kernel_rfl) (by simp) ?_
      refine (AllReadyH.cons rfl (fun K hK => ?_) (AllReadyH.cons rfl (fun K hK => ?_) AllReadyH.nil))
      · skip
        go_simp
        refine hK.out _ _ HS0.out (fun hHeld => ?_)
        clear hK K
        try simp only [List.getElem_toArray, List.getElem_cons_succ, List.getElem_cons_zero, Act.put, List.setIfInBounds_toArray, List.set_cons_zero, List.set_cons_succ]
        refine wpAnyH_ready (rs := [6]) (by kernel_rfl) (by simp) ?_
        refine (AllReadyH.cons rfl (fun K hK => ?_) AllReadyH.nil)
        go_simp
        refine HP.out.mono ?_
        rintro e w7 ⟨cs, t, m'', rfl, hat, hMt, htz, hm'', hmk7, hb7⟩
        have hb7 : But wr.heap.size g wr w7 := ((But.refl wr.heap.size g wr).drew).trans hb7
        obtain ⟨k5, t5, nv5, av5, rfl, o1, o2⟩ := EAt_form hat
        obtain ⟨S7, c7, S8, c8, xs, hx8, hB8, hc9⟩ := LA.step hiq hown heb hM hmk hl hq5 hsz hmm hbut hgb hgeb hne (Et.At.mono (fun _ h => h) _ _ hat) rfl hMt htz hm'' hmk7 hb7
        have HS7 := Lib.hid S7
        have HS8 := Lib.hid S8
        have HX := Lib.hid hx8
        have HB8 := Lib.hid hB8
        have HC := Lib.hid hc9
        have HONE : Hid (nv5.oneCell' = true ∧ av5.oneCell' = true) := ⟨o1, o2⟩
        have HBW := Lib.hid hb7.size
        clear hat hMt htz hm'' hmk7 hb7 S7 S8 hx8 hB8 hc9 o1 o2
        refine hK.out _ _ HS7.out (fun hHeld => ?_)
        clear hK K
        try simp only [List.getElem_toArray, List.getElem_cons_succ, List.getElem_cons_zero, Act.put, List.setIfInBounds_toArray, List.set_cons_zero, List.set_cons_succ]
        refine wpAnyH_ready (rs := [7]) (by kernel_rfl) (by simp) ?_
        refine (AllReadyH.cons rfl (fun K hK => ?_) AllReadyH.nil)
        go_simp
        refine hK.out _ _ HS8.out (fun hHeld => ?_)
        clear hK K
        try simp only [List.getElem_toArray, List.getElem_cons_succ, List.getElem_cons_zero, Act.put, List.setIfInBounds_toArray, List.set_cons_zero, List.set_cons_succ]
        refine wpAnyH_ready (rs := [8]) (by kernel_rfl) (by simp) ?_
        refine (AllReadyH.cons rfl (fun K hK => ?_) AllReadyH.nil)
        refine wp_app (Operand.tmp 109) (Operand.tmp 115) rfl W0.heap.size (.slice ao i ac) i xs rfl HX.out _ 1 rfl #[.int .i64 k5, .string t5, nv5, av5].toList rfl (row_cells _ _) (one_cells HONE.out) hi1 HB8.out ?_
        intro v' w9 hown9 hg9 hv9
        obtain ⟨ao', ac', rfl⟩ := own_form hown9
        obtain ⟨S9, e9, f9, S10, HREL⟩ := HC.out _ _ _ hown9 hg9 hv9
        have HS9 := Lib.hid S9
        have HS10 := Lib.hid S10
        have HR := Lib.hid HREL
        clear hown9 hg9 hv9 S9 S10 HREL
        refine hK.out _ _ HS9.out (fun hHeld => ?_)
        clear hK K
        try simp only [List.getElem_toArray, List.getElem_cons_succ, List.getElem_cons_zero, Act.put, List.setIfInBounds_toArray, List.set_cons_zero, List.set_cons_succ]
        refine wpAnyH_take (i := 9) (v := Value.pointer (some ⟨ge, 3, none⟩)) rfl (by kernel_rfl) (by kernel_rfl) (by kernel_rfl) (fun _ _ _ h => h) (Or.inl ⟨rfl, fun w' hw' => ?_⟩) hHeld ?_
        · go_simp
        simp only [List.getElem_toArray, List.getElem_cons_succ, List.getElem_cons_zero, Act.put, List.setIfInBounds_toArray, List.set_cons_zero, List.set_cons_succ]
        refine wpAnyH_ready (rs := [10]) (by kernel_rfl) (by simp) ?_
        refine (AllReadyH.cons rfl (fun K hK => ?_) AllReadyH.nil)
        go_simp
        refine hK.out _ _ HS10.out (fun hHeld => ?_)
        clear hK K
        try simp only [List.getElem_toArray, List.getElem_cons_succ, List.getElem_cons_zero, Act.put, List.setIfInBounds_toArray, List.set_cons_zero, List.set_cons_succ]
        refine wpAnyH_done (by kernel_rfl) ?_ _
        refine NoPanic.normal ?_
        clear hHeld
        go_wp2_with fail
        go_roundw
        case rel => exact HR.out
        case measure => simp [intOf]; omega
      · skip
        go_simp
        refine HP.out.mono ?_
        rintro e w7 ⟨cs, t, m'', rfl, hat, hMt, htz, hm'', hmk7, hb7⟩
        have hb7 : But wr.heap.size g wr w7 := ((But.refl wr.heap.size g wr).drew).trans hb7
        obtain ⟨k5, t5, nv5, av5, rfl, o1, o2⟩ := EAt_form hat
        obtain ⟨S7, c7, S8, c8, xs, hx8, hB8, hc9⟩ := LA.step hiq hown heb hM hmk hl hq5 hsz hmm hbut hgb hgeb hne (Et.At.mono (fun _ h => h) _ _ hat) rfl hMt htz hm'' hmk7 hb7
        have HS7 := Lib.hid S7
        have HS8 := Lib.hid S8
        have HX := Lib.hid hx8
        have HB8 := Lib.hid hB8
        have HC := Lib.hid hc9
        have HONE : Hid (nv5.oneCell' = true ∧ av5.oneCell' = true) := ⟨o1, o2⟩
        have HBW := Lib.hid hb7.size
        clear hat hMt htz hm'' hmk7 hb7 S7 S8 hx8 hB8 hc9 o1 o2
        refine hK.out _ _ HS7.out (fun hHeld => ?_)
        clear hK K
        try simp only [List.getElem_toArray, List.getElem_cons_succ, List.getElem_cons_zero, Act.put, List.setIfInBounds_toArray, List.set_cons_zero, List.set_cons_succ]
        refine wpAnyH_ready (rs := [1, 7]) (by kernel_rfl) (by simp) ?_
        refine (AllReadyH.cons rfl (fun K hK => ?_) (AllReadyH.cons rfl (fun K hK => ?_) AllReadyH.nil))
        · skip
          go_simp
          refine hK.out _ _ HS7.out (fun hHeld => ?_)
          clear hK K
          try simp only [List.getElem_toArray, List.getElem_cons_succ, List.getElem_cons_zero, Act.put, List.setIfInBounds_toArray, List.set_cons_zero, List.set_cons_succ]
          refine wpAnyH_ready (rs := [7]) (by kernel_rfl) (by simp) ?_
          refine (AllReadyH.cons rfl (fun K hK => ?_) AllReadyH.nil)
          go_simp
          refine hK.out _ _ HS8.out (fun hHeld => ?_)
          clear hK K
          try simp only [List.getElem_toArray, List.getElem_cons_succ, List.getElem_cons_zero, Act.put, List.setIfInBounds_toArray, List.set_cons_zero, List.set_cons_succ]
          refine wpAnyH_ready (rs := [8]) (by kernel_rfl) (by simp) ?_
          refine (AllReadyH.cons rfl (fun K hK => ?_) AllReadyH.nil)
          refine wp_app (Operand.tmp 109) (Operand.tmp 115) rfl W0.heap.size (.slice ao i ac) i xs rfl HX.out _ 1 rfl #[.int .i64 k5, .string t5, nv5, av5].toList rfl (row_cells _ _) (one_cells HONE.out) hi1 HB8.out ?_
          intro v' w9 hown9 hg9 hv9
          obtain ⟨ao', ac', rfl⟩ := own_form hown9
          obtain ⟨S9, e9, f9, S10, HREL⟩ := HC.out _ _ _ hown9 hg9 hv9
          have HS9 := Lib.hid S9
          have HS10 := Lib.hid S10
          have HR := Lib.hid HREL
          clear hown9 hg9 hv9 S9 S10 HREL
          refine hK.out _ _ HS9.out (fun hHeld => ?_)
          clear hK K
          try simp only [List.getElem_toArray, List.getElem_cons_succ, List.getElem_cons_zero, Act.put, List.setIfInBounds_toArray, List.set_cons_zero, List.set_cons_succ]
          refine wpAnyH_take (i := 9) (v := Value.pointer (some ⟨ge, 3, none⟩)) rfl (by kernel_rfl) (by kernel_rfl) (by kernel_rfl) (fun _ _ _ h => h) (Or.inl ⟨rfl, fun w' hw' => ?_⟩) hHeld ?_
          · go_simp
          simp only [List.getElem_toArray, List.getElem_cons_succ, List.getElem_cons_zero, Act.put, List.setIfInBounds_toArray, List.set_cons_zero, List.set_cons_succ]
          refine wpAnyH_ready (rs := [10]) (by kernel_rfl) (by simp) ?_
          refine (AllReadyH.cons rfl (fun K hK => ?_) AllReadyH.nil)
          go_simp
          refine hK.out _ _ HS10.out (fun hHeld => ?_)
          clear hK K
          try simp only [List.getElem_toArray, List.getElem_cons_succ, List.getElem_cons_zero, Act.put, List.setIfInBounds_toArray, List.set_cons_zero, List.set_cons_succ]
          refine wpAnyH_done (by kernel_rfl) ?_ _
          refine NoPanic.normal ?_
          clear hHeld
          go_wp2_with fail
          go_roundw
          case rel => exact HR.out
          case measure => simp [intOf]; omega
        · skip
          go_simp
          refine hK.out _ _ HS8.out (fun hHeld => ?_)
          clear hK K
          try simp only [List.getElem_toArray, List.getElem_cons_succ, List.getElem_cons_zero, Act.put, List.setIfInBounds_toArray, List.set_cons_zero, List.set_cons_succ]
          refine wpAnyH_ready (rs := [1]) (by kernel_rfl) (by simp) ?_
          refine (AllReadyH.cons rfl (fun K hK => ?_) AllReadyH.nil)
          go_simp
          refine hK.out _ _ HS8.out (fun hHeld => ?_)
          clear hK K
          try simp only [List.getElem_toArray, List.getElem_cons_succ, List.getElem_cons_zero, Act.put, List.setIfInBounds_toArray, List.set_cons_zero, List.set_cons_succ]
          refine wpAnyH_ready (rs := [8]) (by kernel_rfl) (by simp) ?_
          refine (AllReadyH.cons rfl (fun K hK => ?_) AllReadyH.nil)
          refine wp_app (Operand.tmp 109) (Operand.tmp 115) rfl W0.heap.size (.slice ao i ac) i xs rfl HX.out _ 1 rfl #[.int .i64 k5, .string t5, nv5, av5].toList rfl (row_cells _ _) (one_cells HONE.out) hi1 HB8.out ?_
          intro v' w9 hown9 hg9 hv9
          obtain ⟨ao', ac', rfl⟩ := own_form hown9
          obtain ⟨S9, e9, f9, S10, HREL⟩ := HC.out _ _ _ hown9 hg9 hv9
          have HS9 := Lib.hid S9
          have HS10 := Lib.hid S10
          have HR := Lib.hid HREL
          clear hown9 hg9 hv9 S9 S10 HREL
          refine hK.out _ _ HS9.out (fun hHeld => ?_)
          clear hK K
          try simp only [List.getElem_toArray, List.getElem_cons_succ, List.getElem_cons_zero, Act.put, List.setIfInBounds_toArray, List.set_cons_zero, List.set_cons_succ]
          refine wpAnyH_take (i := 9) (v := Value.pointer (some ⟨ge, 3, none⟩)) rfl (by kernel_rfl) (by kernel_rfl) (by kernel_rfl) (fun _ _ _ h => h) (Or.inl ⟨rfl, fun w' hw' => ?_⟩) hHeld ?_
          · go_simp
          simp only [List.getElem_toArray, List.getElem_cons_succ, List.getElem_cons_zero, Act.put, List.setIfInBounds_toArray, List.set_cons_zero, List.set_cons_succ]
          refine wpAnyH_ready (rs := [10]) (by kernel_rfl) (by simp) ?_
          refine (AllReadyH.cons rfl (fun K hK => ?_) AllReadyH.nil)
          go_simp
          refine hK.out _ _ HS10.out (fun hHeld => ?_)
          clear hK K
          try simp only [List.getElem_toArray, List.getElem_cons_succ, List.getElem_cons_zero, Act.put, List.setIfInBounds_toArray, List.set_cons_zero, List.set_cons_succ]
          refine wpAnyH_done (by kernel_rfl) ?_ _
          refine NoPanic.normal ?_
          clear hHeld
          go_wp2_with fail
          go_roundw
          case rel => exact HR.out
          case measure => simp [intOf]; omega
    · have q1 : decide ((i : Int) < (qq : Int)) = false := decide_eq_false (by omega)
      obtain rfl : i = qq := by omega
      have hz : wr.heap[w.heap.size + 1]? = some (.cells Z4 28 (0, 0)) := (hbut.block _ (by omega) (by omega) hge1).trans HZ3b.out
      have hcl := cnts_take_le pl i
      have hMM : Made sc m m' (.mk 7 ⟨#[]⟩ [] l) := MadeL.node (sc := sc) (ns := []) (b := m) (by rw [List.append_nil]; exact hM) (Nat.le_refl _) (nms_self m).symm (by omega) (by simp) (by decide) (by decide) (by rw [hl]; simp [shapeB, textB, namesB, partsB, Lib.toList_data]; omega)
      obtain ⟨hone, hfin⟩ := made_exit (c := 2 * (1 + Rw.cnts pl)) (s := 4 * (1 + Rw.cnts pl)) (sc := sc) (ns := []) (m := m) (a := 0) hz (.inl ⟨rfl, rfl⟩) (hown.at.mono (fun x hx => by have : W0.heap.size ≤ x := hx; omega)) hMM (by omega) (by omega) hmk ((But.of HB3.out).trans (hbut.to (by omega) (by omega))) hgw
      have HF := Lib.hid hfin
      have HZ := Lib.hid hz
      have HEB := Lib.hid heb
      clear hfin hz hown hM hMM heb hbut
      go_wp2_with (first | (refine wpList_load_row rfl 28 _ rfl ge rfl 28 #[.int .i64 7, .string ⟨#[]⟩, .slice none 0 0, .slice ao i ac] (0, 0) _ HEB.out Tryd.underlying28 rfl info28 ?_) | (refine wpList_store_row rfl 28 _ _ rfl (w.heap.size + 1) #[.int .i64 7, .string ⟨#[]⟩, .slice none 0 0, .slice ao i ac] rfl rfl 28 Z4 HZ.out info28 rfl hone ?_))
      refine bodyPost_ret (results_cell_row rfl _ _ (w.heap.size + 1) 28 #[.int .i64 7, .string ⟨#[]⟩, .slice none 0 0, .slice ao i ac] (0, 0) _ rfl (setRow_heap wr _ _ _ 28 _ HZ.out) Tryd.underlying28 rfl info28) rfl ?_
      exact HF.out
set_option maxHeartbeats 8000000 in
set_option maxRecDepth 100000 in
theorem make7 (k n : Int) (pl : List Rw) (ih : ∀ r ∈ pl, MkC r) (w0 w : World) (g m : Nat) (sc : List ByteArray) (scv : Value) (P : Pre w0 w g m sc scv) (po : Option Addr) (pc : Nat) (hm : m + 2 * (1 + Rw.cnts pl) ≤ 50000) (hR : RsAt w0 po pl) (hk : I64 k) (hn : I64 n) (hq : k % 16 = 7) :
    Calls Tryd.prog 30 #[.pointer (some ⟨g, 0, none⟩), .agg #[.int .i64 k, .int .i64 n, .slice po pl.length pc], scv] w (RetMade sc g m (2 * (1 + Rw.cnts pl)) (4 * (1 + Rw.cnts pl)) w) := by
  have hb2 : Below w.heap.size w ((w.alloc (.cells #[.int .i64 k, .int .i64 n, .slice po pl.length pc] 53)).alloc (.cells Z4 28)) := ((Below.refl w.heap.size w).alloc (Nat.le_refl _) _).alloc (by simp) _
  have hz2 : ((w.alloc (.cells #[.int .i64 k, .int .i64 n, .slice po pl.length pc] 53)).alloc (.cells Z4 28)).heap[w.heap.size + 1]? = some (.cells Z4 28 (0, 0)) := by
    have h := alloc_at (w.alloc (.cells #[.int .i64 k, .int .i64 n, .slice po pl.length pc] 53)) (.cells Z4 28)
    have e : (w.alloc (.cells #[.int .i64 k, .int .i64 n, .slice po pl.length pc] 53)).heap.size = w.heap.size + 1 := by simp
    rw [e] at h; exact h
  have hs2 : ((w.alloc (.cells #[.int .i64 k, .int .i64 n, .slice po pl.length pc] 53)).alloc (.cells Z4 28)).heap.size = w.heap.size + 2 := by simp
  have hgw := P.cnt.lt
  have HB2 := Lib.hid hb2
  have HZ2 := Lib.hid hz2
  have HRW : Hid (((w.alloc (.cells #[.int .i64 k, .int .i64 n, .slice po pl.length pc] 53)).alloc (.cells Z4 28)).heap[w.heap.size]? = some (.cells #[.int .i64 k, .int .i64 n, .slice po pl.length pc] 53 (0, 0))) := (Lib.alloc_old _ _ _ (by simp)).trans (alloc_at w _)
  obtain ⟨so, sc1, rfl⟩ := P.scope.form
  have PP := Lib.hid P
  have hfew : sc.length ≤ 60000 := by have := P.few; omega
  have F0 := Lib.hid (fun w => within_is k 16 7 hk (by decide) (by decide) hq w)
  obtain ⟨r2, hr2⟩ : ∃ r : Nat, n % 2 = (r : Int) := ⟨(n % 2).toNat, by omega⟩
  have hr2l : r2 < 2 := by omega
  have F2 := Lib.hid (fun w => within_is n 2 r2 hn (by decide) (by decide) hr2 w)
  obtain ⟨qq, hqq⟩ : ∃ qq, qq = 2 + r2 := ⟨_, rfl⟩
  have hqi : (2 : Int) + (r2 : Int) = (qq : Int) := by omega
  have hq3 : qq ≤ 3 := by omega
  have hqs : 2 ≤ qq := by omega
  have IH := Lib.hid ih
  have HR := Lib.hid hR
  have HN := Lib.hid hn
  clear ih hb2 hz2 hq hk hn hr2 hR hqq
  go_enter Tryd.func30, Tryd.ntmps30
  go_wp2_with fail
  generalize (w.alloc (.cells #[.int .i64 k, .int .i64 n, .slice po pl.length pc] 53)).alloc (.cells #[.int .i64 0, .string ⟨#[]⟩, .slice none 0 0, .slice none 0 0] 28) = W2 at HB2 HZ2 hs2 HRW ⊢
  have cK : W2.cell? ⟨w.heap.size, 0, none⟩ = some (.int .i64 k) := by rw [Lib.cell_of_heap HRW.out]; rfl
  have cN : W2.cell? ⟨w.heap.size, 1, none⟩ = some (.int .i64 n) := by rw [Lib.cell_of_heap HRW.out]; rfl
  refine (F0.out _).mono ?_
  rintro e w5 ⟨rfl, rfl⟩
  have hz3 : (W2.alloc (.cells Z4 28)).heap[w.heap.size + 2]? = some (.cells Z4 28 (0, 0)) := by rw [← hs2]; exact alloc_at W2 _
  have HZ3 := Lib.hid hz3
  clear hz3
  go_upto_region 26 with (refine wpList_store_row rfl 28 _ _ rfl (w.heap.size + 2) #[.int .i64 7, .string ⟨#[]⟩, .slice none 0 0, .slice none 0 0] rfl rfl 28 Z4 HZ3.out info28 rfl rfl ?_)
  have he3 : (W2.alloc (.cells #[.int .i64 7, .string ⟨#[]⟩, .slice none 0 0, .slice none 0 0] 28)).heap[w.heap.size + 2]? = some (.cells #[.int .i64 7, .string ⟨#[]⟩, .slice none 0 0, .slice none 0 0] 28 (0, 0)) := by rw [← hs2]; exact alloc_at W2 _
  have hb3 : Below W2.heap.size W2 (W2.alloc (.cells #[.int .i64 7, .string ⟨#[]⟩, .slice none 0 0, .slice none 0 0] 28)) := (Below.refl _ _).alloc (Nat.le_refl _) _
  have hs3 : (W2.alloc (.cells #[.int .i64 7, .string ⟨#[]⟩, .slice none 0 0, .slice none 0 0] 28)).heap.size = w.heap.size + 3 := by simp [hs2]
  generalize W2.alloc (.cells #[.int .i64 7, .string ⟨#[]⟩, .slice none 0 0, .slice none 0 0] 28) = W0 at he3 hb3 hs3 ⊢
  have HB3 := Lib.hid (HB2.out.trans (hb3.mono HB2.out.size))
  have HRW3 := Lib.hid (row_below hb3 HRW.out)
  have HZ3b := Lib.hid (row_below hb3 HZ2.out)
  have P3 := Lib.hid (PP.out.below' HB3.out)
  obtain ⟨ge, hge⟩ : ∃ ge, ge = w.heap.size + 2 := ⟨_, rfl⟩
  rw [← hge] at he3
  simp only [← hge]
  have HE3 : Hid (EB W0 ge 7 ⟨#[]⟩ (.slice none 0 0) (.slice none 0 0)) := he3
  have hgeb : ge < W0.heap.size := by omega
  have hgb : g < W0.heap.size := by omega
  have hne : ge ≠ g := by omega
  have hbW : w.heap.size < W0.heap.size := by omega
  have hbg : w.heap.size ≠ g := by omega
  have hbe : w.heap.size ≠ ge := by omega
  have hge1 : w.heap.size + 1 ≠ ge := by omega
  have hgeW : w.heap.size ≤ ge := by omega
  have hWW : w.heap.size + 3 ≤ W0.heap.size := by omega
  have hgw0 : w0.heap.size ≤ ge := by have := PP.out.maker; omega
  have HGE := Lib.hid hge
  clear hge hs3
  clear he3 hb3 HZ3 HRW HB2 HZ2 cK cN hs2 F0
  have H0 : Hid (LA W0 g ge qq m pl sc 7 ⟨#[]⟩ (.slice none 0 0) (.int .i64 0) W0) := ⟨0, m, [], _, Nat.zero_le _, rfl, OwnA.nil _ _, HE3.out, MadeL.nil _ _, P3.out.cnt, rfl, by simp [Et.sizes], by omega, But2.refl _ _ _ _⟩
  go_wp2_with fail
  go_loopw [12] (fun iv wr => LA W0 g ge qq m pl sc 7 ⟨#[]⟩ (.slice none 0 0) iv wr) (fun iv _ => qq - (intOf iv).toNat)
  case atStart => exact H0.out
  case round =>
    clear H0
    obtain ⟨i, m', l, av, hi, rfl, hown, heb, hM, hmk, hl, hsz, hmm, hbut⟩ := hrel
    have hs0 := hbut.size
    have HRr : Hid (wr.heap[w.heap.size]? = some (.cells #[.int .i64 k, .int .i64 n, .slice po pl.length pc] 53 (0, 0))) := (hbut.block _ hbW hbg hbe).trans HRW3.out
    have cN : wr.cell? ⟨w.heap.size, 1, none⟩ = some (.int .i64 n) := by rw [Lib.cell_of_heap HRr.out]; rfl
    have HPr : Hid (Pre w0 wr g m' sc (.slice so sc.length sc1)) := P3.out.move2 hbut hmk hM.le ⟨_, _, HE3.out⟩ hgw0
    obtain ⟨ao, ac, rfl⟩ : ∃ ao ac, av = .slice ao i ac := by
      obtain ⟨xs, ho, _⟩ := hown
      rw [hl] at ho
      exact own_form ho
    go_wp2_with fail
    refine (F2.out _).mono ?_
    rintro e w6 ⟨rfl, rfl⟩
    by_cases hiq : i < qq
    · have q1 : decide ((i : Int) < (qq : Int)) = true := decide_eq_true (by omega)
      have c3 := (EB.cell _ _ _ _ _ _ heb).2.2.2
      have hi1 : i + 1 ≤ 1000000000 := by omega
      have hq5 : qq ≤ 100000 := by omega
      have hcl := cnts_take_le pl (i + 1)
      have hct := pcn_take pl i
      have HP := Lib.hid (part_any k n pl IH.out w0 wr.drew g m' sc _ (HPr.out.below' (Below.refl _ _).drew) po pc i (by omega) (by omega) HR.out HN.out)
      have HS0 : Hid (But2 W0.heap.size g ge wr wr.drew) := But2.drew2 _ _ _ _
      clear hcl hct
      go_upto_region 29 with fail
      refine wp_region_noPanic ?_
      refine wp_region_held_drew (S := But2 W0.heap.size g ge wr) (by kernel_rfl) (But2.drew2 _ _ _ _) (fun hHeld => ?_)
      refine wpAnyH_take (i := 0) (v := Value.pointer (some ⟨ge, 3, none⟩)) rfl (by kernel_rfl) (by kernel_rfl) (by kernel_rfl) (fun _ _ _ h => h) (Or.inl ⟨rfl, fun w' hw' => ?_⟩) hHeld ?_
      · go_simp
      simp only [List.getElem_toArray, List.getElem_cons_succ, List.getElem_cons_zero, Act.put, List.setIfInBounds_toArray, List.set_cons_zero, List.set_cons_succ]
      refine wpAnyH_take (i := 2) (v := Value.pointer (some ⟨g, 0, none⟩)) rfl (by kernel_rfl) (by kernel_rfl) (by kernel_rfl) (fun _ _ _ h => h) (Or.inl ⟨rfl, fun w' hw' => ?_⟩) hHeld ?_
      · go_simp
      simp only [List.getElem_toArray, List.getElem_cons_succ, List.getElem_cons_zero, Act.put, List.setIfInBounds_toArray, List.set_cons_zero, List.set_cons_succ]
      refine wpAnyH_take (i := 3) rfl (by kernel_rfl) (by kernel_rfl) (by kernel_rfl) (fun _ _ _ h => h) (yieldsIf_load_mid (by rfl) _ _ rfl w.heap.size 0 rfl [.int .i64 k, .int .i64 n, .slice po pl.length pc] _ (fun w' hw' => row_rangeB ((hw'.block w.heap.size hbW hbg hbe).trans HRr.out)) Tryd.underlying53 rfl info53) hHeld ?_
      simp only [List.getElem_toArray, List.getElem_cons_succ, List.getElem_cons_zero, Act.put, List.setIfInBounds_toArray, List.set_cons_zero, List.set_cons_succ]
      refine wpAnyH_take (i := 4) (v := Value.int .i64 (i : Int)) rfl (by kernel_rfl) (by kernel_rfl) (by kernel_rfl) (fun _ _ _ h => h) (Or.inl ⟨rfl, fun w' hw' => ?_⟩) hHeld ?_
      · go_simp
      simp only [List.getElem_toArray, List.getElem_cons_succ, List.getElem_cons_zero, Act.put, List.setIfInBounds_toArray, List.set_cons_zero, List.set_cons_succ]
      refine wpAnyH_take (i := 5) (v := Value.slice so sc.length sc1) rfl (by kernel_rfl) (by kernel_rfl) (by kernel_rfl) (fun _ _ _ h => h) (Or.inl ⟨rfl, fun w' hw' => ?_⟩) hHeld ?_
      · go_simp
      simp only [List.getElem_toArray, List.getElem_cons_succ, List.getElem_cons_zero, Act.put, List.setIfInBounds_toArray, List.set_cons_zero, List.set_cons_succ]
      refine wpAnyH_ready (rs := [1, 6]) (by kernel_rfl) (by simp) ?_
      refine (AllReadyH.cons rfl (fun K hK => ?_) (AllReadyH.cons rfl (fun K hK => ?_) AllReadyH.nil))
      · skip
        go_simp
        refine hK.out _ _ HS0.out (fun hHeld => ?_)
        clear hK K
        try simp only [List.getElem_toArray, List.getElem_cons_succ, List.getElem_cons_zero, Act.put, List.setIfInBounds_toArray, List.set_cons_zero, List.set_cons_succ]
        refine wpAnyH_ready (rs := [6]) (by kernel_rfl) (by simp) ?_
        refine (AllReadyH.cons rfl (fun K hK => ?_) AllReadyH.nil)
        go_simp
        refine HP.out.mono ?_
        rintro e w7 ⟨cs, t, m'', rfl, hat, hMt, htz, hm'', hmk7, hb7⟩
        have hb7 : But wr.heap.size g wr w7 := ((But.refl wr.heap.size g wr).drew).trans hb7
        obtain ⟨k5, t5, nv5, av5, rfl, o1, o2⟩ := EAt_form hat
        obtain ⟨S7, c7, S8, c8, xs, hx8, hB8, hc9⟩ := LA.step hiq hown heb hM hmk hl hq5 hsz hmm hbut hgb hgeb hne (Et.At.mono (fun _ h => h) _ _ hat) rfl hMt htz hm'' hmk7 hb7
        have HS7 := Lib.hid S7
        have HS8 := Lib.hid S8
        have HX := Lib.hid hx8
        have HB8 := Lib.hid hB8
        have HC := Lib.hid hc9
        have HONE : Hid (nv5.oneCell' = true ∧ av5.oneCell' = true) := ⟨o1, o2⟩
        have HBW := Lib.hid hb7.size
        clear hat hMt htz hm'' hmk7 hb7 S7 S8 hx8 hB8 hc9 o1 o2
        refine hK.out _ _ HS7.out (fun hHeld => ?_)
        clear hK K
        try simp only [List.getElem_toArray, List.getElem_cons_succ, List.getElem_cons_zero, Act.put, List.setIfInBounds_toArray, List.set_cons_zero, List.set_cons_succ]
        refine wpAnyH_ready (rs := [7]) (by kernel_rfl) (by simp) ?_
        refine (AllReadyH.cons rfl (fun K hK => ?_) AllReadyH.nil)
        go_simp
        refine hK.out _ _ HS8.out (fun hHeld => ?_)
        clear hK K
        try simp only [List.getElem_toArray, List.getElem_cons_succ, List.getElem_cons_zero, Act.put, List.setIfInBounds_toArray, List.set_cons_zero, List.set_cons_succ]
        refine wpAnyH_ready (rs := [8]) (by kernel_rfl) (by simp) ?_
        refine (AllReadyH.cons rfl (fun K hK => ?_) AllReadyH.nil)
        refine wp_app (Operand.tmp 109) (Operand.tmp 115) rfl W0.heap.size (.slice ao i ac) i xs rfl HX.out _ 1 rfl #[.int .i64 k5, .string t5, nv5, av5].toList rfl (row_cells _ _) (one_cells HONE.out) hi1 HB8.out ?_
        intro v' w9 hown9 hg9 hv9
        obtain ⟨ao', ac', rfl⟩ := own_form hown9
        obtain ⟨S9, e9, f9, S10, HREL⟩ := HC.out _ _ _ hown9 hg9 hv9
        have HS9 := Lib.hid S9
        have HS10 := Lib.hid S10
        have HR := Lib.hid HREL
        clear hown9 hg9 hv9 S9 S10 HREL
        refine hK.out _ _ HS9.out (fun hHeld => ?_)
        clear hK K
        try simp only [List.getElem_toArray, List.getElem_cons_succ, List.getElem_cons_zero, Act.put, List.setIfInBounds_toArray, List.set_cons_zero, List.set_cons_succ]
        refine wpAnyH_take (i := 9) (v := Value.pointer (some ⟨ge, 3, none⟩)) rfl (by kernel_rfl) (by kernel_rfl) (by kernel_rfl) (fun _ _ _ h => h) (Or.inl ⟨rfl, fun w' hw' => ?_⟩) hHeld ?_
        · go_simp
        simp only [List.getElem_toArray, List.getElem_cons_succ, List.getElem_cons_zero, Act.put, List.setIfInBounds_toArray, List.set_cons_zero, List.set_cons_succ]
        refine wpAnyH_ready (rs := [10]) (by kernel_rfl) (by simp) ?_
        refine (AllReadyH.cons rfl (fun K hK => ?_) AllReadyH.nil)
        go_simp
        refine hK.out _ _ HS10.out (fun hHeld => ?_)
        clear hK K
        try simp only [List.getElem_toArray, List.getElem_cons_succ, List.getElem_cons_zero, Act.put, List.setIfInBounds_toArray, List.set_cons_zero, List.set_cons_succ]
        refine wpAnyH_done (by kernel_rfl) ?_ _
        refine NoPanic.normal ?_
        clear hHeld
        go_wp2_with fail
        go_roundw
        case rel => exact HR.out
        case measure => simp [intOf]; omega
      · skip
        go_simp
        refine HP.out.mono ?_
        rintro e w7 ⟨cs, t, m'', rfl, hat, hMt, htz, hm'', hmk7, hb7⟩
        have hb7 : But wr.heap.size g wr w7 := ((But.refl wr.heap.size g wr).drew).trans hb7
        obtain ⟨k5, t5, nv5, av5, rfl, o1, o2⟩ := EAt_form hat
        obtain ⟨S7, c7, S8, c8, xs, hx8, hB8, hc9⟩ := LA.step hiq hown heb hM hmk hl hq5 hsz hmm hbut hgb hgeb hne (Et.At.mono (fun _ h => h) _ _ hat) rfl hMt htz hm'' hmk7 hb7
        have HS7 := Lib.hid S7
        have HS8 := Lib.hid S8
        have HX := Lib.hid hx8
        have HB8 := Lib.hid hB8
        have HC := Lib.hid hc9
        have HONE : Hid (nv5.oneCell' = true ∧ av5.oneCell' = true) := ⟨o1, o2⟩
        have HBW := Lib.hid hb7.size
        clear hat hMt htz hm'' hmk7 hb7 S7 S8 hx8 hB8 hc9 o1 o2
        refine hK.out _ _ HS7.out (fun hHeld => ?_)
        clear hK K
        try simp only [List.getElem_toArray, List.getElem_cons_succ, List.getElem_cons_zero, Act.put, List.setIfInBounds_toArray, List.set_cons_zero, List.set_cons_succ]
        refine wpAnyH_ready (rs := [1, 7]) (by kernel_rfl) (by simp) ?_
        refine (AllReadyH.cons rfl (fun K hK => ?_) (AllReadyH.cons rfl (fun K hK => ?_) AllReadyH.nil))
        · skip
          go_simp
          refine hK.out _ _ HS7.out (fun hHeld => ?_)
          clear hK K
          try simp only [List.getElem_toArray, List.getElem_cons_succ, List.getElem_cons_zero, Act.put, List.setIfInBounds_toArray, List.set_cons_zero, List.set_cons_succ]
          refine wpAnyH_ready (rs := [7]) (by kernel_rfl) (by simp) ?_
          refine (AllReadyH.cons rfl (fun K hK => ?_) AllReadyH.nil)
          go_simp
          refine hK.out _ _ HS8.out (fun hHeld => ?_)
          clear hK K
          try simp only [List.getElem_toArray, List.getElem_cons_succ, List.getElem_cons_zero, Act.put, List.setIfInBounds_toArray, List.set_cons_zero, List.set_cons_succ]
          refine wpAnyH_ready (rs := [8]) (by kernel_rfl) (by simp) ?_
          refine (AllReadyH.cons rfl (fun K hK => ?_) AllReadyH.nil)
          refine wp_app (Operand.tmp 109) (Operand.tmp 115) rfl W0.heap.size (.slice ao i ac) i xs rfl HX.out _ 1 rfl #[.int .i64 k5, .string t5, nv5, av5].toList rfl (row_cells _ _) (one_cells HONE.out) hi1 HB8.out ?_
          intro v' w9 hown9 hg9 hv9
          obtain ⟨ao', ac', rfl⟩ := own_form hown9
          obtain ⟨S9, e9, f9, S10, HREL⟩ := HC.out _ _ _ hown9 hg9 hv9
          have HS9 := Lib.hid S9
          have HS10 := Lib.hid S10
          have HR := Lib.hid HREL
          clear hown9 hg9 hv9 S9 S10 HREL
          refine hK.out _ _ HS9.out (fun hHeld => ?_)
          clear hK K
          try simp only [List.getElem_toArray, List.getElem_cons_succ, List.getElem_cons_zero, Act.put, List.setIfInBounds_toArray, List.set_cons_zero, List.set_cons_succ]
          refine wpAnyH_take (i := 9) (v := Value.pointer (some ⟨ge, 3, none⟩)) rfl (by kernel_rfl) (by kernel_rfl) (by kernel_rfl) (fun _ _ _ h => h) (Or.inl ⟨rfl, fun w' hw' => ?_⟩) hHeld ?_
          · go_simp
          simp only [List.getElem_toArray, List.getElem_cons_succ, List.getElem_cons_zero, Act.put, List.setIfInBounds_toArray, List.set_cons_zero, List.set_cons_succ]
          refine wpAnyH_ready (rs := [10]) (by kernel_rfl) (by simp) ?_
          refine (AllReadyH.cons rfl (fun K hK => ?_) AllReadyH.nil)
          go_simp
          refine hK.out _ _ HS10.out (fun hHeld => ?_)
          clear hK K
          try simp only [List.getElem_toArray, List.getElem_cons_succ, List.getElem_cons_zero, Act.put, List.setIfInBounds_toArray, List.set_cons_zero, List.set_cons_succ]
          refine wpAnyH_done (by kernel_rfl) ?_ _
          refine NoPanic.normal ?_
          clear hHeld
          go_wp2_with fail
          go_roundw
          case rel => exact HR.out
          case measure => simp [intOf]; omega
        · skip
          go_simp
          refine hK.out _ _ HS8.out (fun hHeld => ?_)
          clear hK K
          try simp only [List.getElem_toArray, List.getElem_cons_succ, List.getElem_cons_zero, Act.put, List.setIfInBounds_toArray, List.set_cons_zero, List.set_cons_succ]
          refine wpAnyH_ready (rs := [1]) (by kernel_rfl) (by simp) ?_
          refine (AllReadyH.cons rfl (fun K hK => ?_) AllReadyH.nil)
          go_simp
          refine hK.out _ _ HS8.out (fun hHeld => ?_)
          clear hK K
          try simp only [List.getElem_toArray, List.getElem_cons_succ, List.getElem_cons_zero, Act.put, List.setIfInBounds_toArray, List.set_cons_zero, List.set_cons_succ]
          refine wpAnyH_ready (rs := [8]) (by kernel_rfl) (by simp) ?_
          refine (AllReadyH.cons rfl (fun K hK => ?_) AllReadyH.nil)
          refine wp_app (Operand.tmp 109) (Operand.tmp 115) rfl W0.heap.size (.slice ao i ac) i xs rfl HX.out _ 1 rfl #[.int .i64 k5, .string t5, nv5, av5].toList rfl (row_cells _ _) (one_cells HONE.out) hi1 HB8.out ?_
          intro v' w9 hown9 hg9 hv9
          obtain ⟨ao', ac', rfl⟩ := own_form hown9
          obtain ⟨S9, e9, f9, S10, HREL⟩ := HC.out _ _ _ hown9 hg9 hv9
          have HS9 := Lib.hid S9
          have HS10 := Lib.hid S10
          have HR := Lib.hid HREL
          clear hown9 hg9 hv9 S9 S10 HREL
          refine hK.out _ _ HS9.out (fun hHeld => ?_)
          clear hK K
          try simp only [List.getElem_toArray, List.getElem_cons_succ, List.getElem_cons_zero, Act.put, List.setIfInBounds_toArray, List.set_cons_zero, List.set_cons_succ]
          refine wpAnyH_take (i := 9) (v := Value.pointer (some ⟨ge, 3, none⟩)) rfl (by kernel_rfl) (by kernel_rfl) (by kernel_rfl) (fun _ _ _ h => h) (Or.inl ⟨rfl, fun w' hw' => ?_⟩) hHeld ?_
          · go_simp
          simp only [List.getElem_toArray, List.getElem_cons_succ, List.getElem_cons_zero, Act.put, List.setIfInBounds_toArray, List.set_cons_zero, List.set_cons_succ]
          refine wpAnyH_ready (rs := [10]) (by kernel_rfl) (by simp) ?_
          refine (AllReadyH.cons rfl (fun K hK => ?_) AllReadyH.nil)
          go_simp
          refine hK.out _ _ HS10.out (fun hHeld => ?_)
          clear hK K
          try simp only [List.getElem_toArray, List.getElem_cons_succ, List.getElem_cons_zero, Act.put, List.setIfInBounds_toArray, List.set_cons_zero, List.set_cons_succ]
          refine wpAnyH_done (by kernel_rfl) ?_ _
          refine NoPanic.normal ?_
          clear hHeld
          go_wp2_with fail
          go_roundw
          case rel => exact HR.out
          case measure => simp [intOf]; omega
    · have q1 : decide ((i : Int) < (qq : Int)) = false := decide_eq_false (by omega)
      obtain rfl : i = qq := by omega
      have hz : wr.heap[w.heap.size + 1]? = some (.cells Z4 28 (0, 0)) := (hbut.block _ (by omega) (by omega) hge1).trans HZ3b.out
      have hcl := cnts_take_le pl i
      have hMM : Made sc m m' (.mk 7 ⟨#[]⟩ [] l) := MadeL.node (sc := sc) (ns := []) (b := m) (by rw [List.append_nil]; exact hM) (Nat.le_refl _) (nms_self m).symm (by omega) (by simp) (by decide) (by decide) (by rw [hl]; simp [shapeB, textB, namesB, partsB, Lib.toList_data]; omega)
      obtain ⟨hone, hfin⟩ := made_exit (c := 2 * (1 + Rw.cnts pl)) (s := 4 * (1 + Rw.cnts pl)) (sc := sc) (ns := []) (m := m) (a := 0) hz (.inl ⟨rfl, rfl⟩) (hown.at.mono (fun x hx => by have : W0.heap.size ≤ x := hx; omega)) hMM (by omega) (by omega) hmk ((But.of HB3.out).trans (hbut.to (by omega) (by omega))) hgw
      have HF := Lib.hid hfin
      have HZ := Lib.hid hz
      have HEB := Lib.hid heb
      clear hfin hz hown hM hMM heb hbut
      go_wp2_with (first | (refine wpList_load_row rfl 28 _ rfl ge rfl 28 #[.int .i64 7, .string ⟨#[]⟩, .slice none 0 0, .slice ao i ac] (0, 0) _ HEB.out Tryd.underlying28 rfl info28 ?_) | (refine wpList_store_row rfl 28 _ _ rfl (w.heap.size + 1) #[.int .i64 7, .string ⟨#[]⟩, .slice none 0 0, .slice ao i ac] rfl rfl 28 Z4 HZ.out info28 rfl hone ?_))
      refine bodyPost_ret (results_cell_row rfl _ _ (w.heap.size + 1) 28 #[.int .i64 7, .string ⟨#[]⟩, .slice none 0 0, .slice ao i ac] (0, 0) _ rfl (setRow_heap wr _ _ _ 28 _ HZ.out) Tryd.underlying28 rfl info28) rfl ?_
      exact HF.out
set_option maxHeartbeats 8000000 in
set_option maxRecDepth 100000 in
theorem make8 (k n : Int) (pl : List Rw) (ih : ∀ r ∈ pl, MkC r) (w0 w : World) (g m : Nat) (sc : List ByteArray) (scv : Value) (P : Pre w0 w g m sc scv) (po : Option Addr) (pc : Nat) (hm : m + 2 * (1 + Rw.cnts pl) ≤ 50000) (hR : RsAt w0 po pl) (hk : I64 k) (hn : I64 n) (hq : k % 16 = 8) :
    Calls Tryd.prog 30 #[.pointer (some ⟨g, 0, none⟩), .agg #[.int .i64 k, .int .i64 n, .slice po pl.length pc], scv] w (RetMade sc g m (2 * (1 + Rw.cnts pl)) (4 * (1 + Rw.cnts pl)) w) := by
  have hb2 : Below w.heap.size w ((w.alloc (.cells #[.int .i64 k, .int .i64 n, .slice po pl.length pc] 53)).alloc (.cells Z4 28)) := ((Below.refl w.heap.size w).alloc (Nat.le_refl _) _).alloc (by simp) _
  have hz2 : ((w.alloc (.cells #[.int .i64 k, .int .i64 n, .slice po pl.length pc] 53)).alloc (.cells Z4 28)).heap[w.heap.size + 1]? = some (.cells Z4 28 (0, 0)) := by
    have h := alloc_at (w.alloc (.cells #[.int .i64 k, .int .i64 n, .slice po pl.length pc] 53)) (.cells Z4 28)
    have e : (w.alloc (.cells #[.int .i64 k, .int .i64 n, .slice po pl.length pc] 53)).heap.size = w.heap.size + 1 := by simp
    rw [e] at h; exact h
  have hs2 : ((w.alloc (.cells #[.int .i64 k, .int .i64 n, .slice po pl.length pc] 53)).alloc (.cells Z4 28)).heap.size = w.heap.size + 2 := by simp
  have hgw := P.cnt.lt
  have HB2 := Lib.hid hb2
  have HZ2 := Lib.hid hz2
  have HRW : Hid (((w.alloc (.cells #[.int .i64 k, .int .i64 n, .slice po pl.length pc] 53)).alloc (.cells Z4 28)).heap[w.heap.size]? = some (.cells #[.int .i64 k, .int .i64 n, .slice po pl.length pc] 53 (0, 0))) := (Lib.alloc_old _ _ _ (by simp)).trans (alloc_at w _)
  obtain ⟨so, sc1, rfl⟩ := P.scope.form
  have PP := Lib.hid P
  have hfew : sc.length ≤ 60000 := by have := P.few; omega
  have F0 := Lib.hid (fun w => within_is k 16 8 hk (by decide) (by decide) hq w)
  obtain ⟨r2, hr2⟩ : ∃ r : Nat, n % 2 = (r : Int) := ⟨(n % 2).toNat, by omega⟩
  have hr2l : r2 < 2 := by omega
  have F2 := Lib.hid (fun w => within_is n 2 r2 hn (by decide) (by decide) hr2 w)
  obtain ⟨qq, hqq⟩ : ∃ qq, qq = 2 + r2 := ⟨_, rfl⟩
  have hqi : (2 : Int) + (r2 : Int) = (qq : Int) := by omega
  have hq3 : qq ≤ 3 := by omega
  have hqs : 2 ≤ qq := by omega
  have IH := Lib.hid ih
  have HR := Lib.hid hR
  have HN := Lib.hid hn
  clear ih hb2 hz2 hq hk hn hr2 hR hqq
  go_enter Tryd.func30, Tryd.ntmps30
  go_wp2_with fail
  generalize (w.alloc (.cells #[.int .i64 k, .int .i64 n, .slice po pl.length pc] 53)).alloc (.cells #[.int .i64 0, .string ⟨#[]⟩, .slice none 0 0, .slice none 0 0] 28) = W2 at HB2 HZ2 hs2 HRW ⊢
  have cK : W2.cell? ⟨w.heap.size, 0, none⟩ = some (.int .i64 k) := by rw [Lib.cell_of_heap HRW.out]; rfl
  have cN : W2.cell? ⟨w.heap.size, 1, none⟩ = some (.int .i64 n) := by rw [Lib.cell_of_heap HRW.out]; rfl
  refine (F0.out _).mono ?_
  rintro e w5 ⟨rfl, rfl⟩
  have hz3 : (W2.alloc (.cells Z4 28)).heap[w.heap.size + 2]? = some (.cells Z4 28 (0, 0)) := by rw [← hs2]; exact alloc_at W2 _
  have HZ3 := Lib.hid hz3
  clear hz3
  go_upto_region 26 with (refine wpList_store_row rfl 28 _ _ rfl (w.heap.size + 2) #[.int .i64 7, .string ⟨#[]⟩, .slice none 0 0, .slice none 0 0] rfl rfl 28 Z4 HZ3.out info28 rfl rfl ?_)
  have he3 : (W2.alloc (.cells #[.int .i64 7, .string ⟨#[]⟩, .slice none 0 0, .slice none 0 0] 28)).heap[w.heap.size + 2]? = some (.cells #[.int .i64 7, .string ⟨#[]⟩, .slice none 0 0, .slice none 0 0] 28 (0, 0)) := by rw [← hs2]; exact alloc_at W2 _
  have hb3 : Below W2.heap.size W2 (W2.alloc (.cells #[.int .i64 7, .string ⟨#[]⟩, .slice none 0 0, .slice none 0 0] 28)) := (Below.refl _ _).alloc (Nat.le_refl _) _
  have hs3 : (W2.alloc (.cells #[.int .i64 7, .string ⟨#[]⟩, .slice none 0 0, .slice none 0 0] 28)).heap.size = w.heap.size + 3 := by simp [hs2]
  generalize W2.alloc (.cells #[.int .i64 7, .string ⟨#[]⟩, .slice none 0 0, .slice none 0 0] 28) = W0 at he3 hb3 hs3 ⊢
  have HB3 := Lib.hid (HB2.out.trans (hb3.mono HB2.out.size))
  have HRW3 := Lib.hid (row_below hb3 HRW.out)
  have HZ3b := Lib.hid (row_below hb3 HZ2.out)
  have P3 := Lib.hid (PP.out.below' HB3.out)
  obtain ⟨ge, hge⟩ : ∃ ge, ge = w.heap.size + 2 := ⟨_, rfl⟩
  rw [← hge] at he3
  simp only [← hge]
  have HE3 : Hid (EB W0 ge 7 ⟨#[]⟩ (.slice none 0 0) (.slice none 0 0)) := he3
  have hgeb : ge < W0.heap.size := by omega
  have hgb : g < W0.heap.size := by omega
  have hne : ge ≠ g := by omega
  have hbW : w.heap.size < W0.heap.size := by omega
  have hbg : w.heap.size ≠ g := by omega
  have hbe : w.heap.size ≠ ge := by omega
  have hge1 : w.heap.size + 1 ≠ ge := by omega
  have hgeW : w.heap.size ≤ ge := by omega
  have hWW : w.heap.size + 3 ≤ W0.heap.size := by omega
  have hgw0 : w0.heap.size ≤ ge := by have := PP.out.maker; omega
  have HGE := Lib.hid hge
  clear hge hs3
  clear he3 hb3 HZ3 HRW HB2 HZ2 cK cN hs2 F0
  have H0 : Hid (LA W0 g ge qq m pl sc 7 ⟨#[]⟩ (.slice none 0 0) (.int .i64 0) W0) := ⟨0, m, [], _, Nat.zero_le _, rfl, OwnA.nil _ _, HE3.out, MadeL.nil _ _, P3.out.cnt, rfl, by simp [Et.sizes], by omega, But2.refl _ _ _ _⟩
  go_wp2_with fail
  go_loopw [12] (fun iv wr => LA W0 g ge qq m pl sc 7 ⟨#[]⟩ (.slice none 0 0) iv wr) (fun iv _ => qq - (intOf iv).toNat)
  case atStart => exact H0.out
  case round =>
    clear H0
    obtain ⟨i, m', l, av, hi, rfl, hown, heb, hM, hmk, hl, hsz, hmm, hbut⟩ := hrel
    have hs0 := hbut.size
    have HRr : Hid (wr.heap[w.heap.size]? = some (.cells #[.int .i64 k, .int .i64 n, .slice po pl.length pc] 53 (0, 0))) := (hbut.block _ hbW hbg hbe).trans HRW3.out
    have cN : wr.cell? ⟨w.heap.size, 1, none⟩ = some (.int .i64 n) := by rw [Lib.cell_of_heap HRr.out]; rfl
    have HPr : Hid (Pre w0 wr g m' sc (.slice so sc.length sc1)) := P3.out.move2 hbut hmk hM.le ⟨_, _, HE3.out⟩ hgw0
    obtain ⟨ao, ac, rfl⟩ : ∃ ao ac, av = .slice ao i ac := by
      obtain ⟨xs, ho, _⟩ := hown
      rw [hl] at ho
      exact own_form ho
    go_wp2_with fail
    refine (F2.out _).mono ?_
    rintro e w6 ⟨rfl, rfl⟩
    by_cases hiq : i < qq
    · have q1 : decide ((i : Int) < (qq : Int)) = true := decide_eq_true (by omega)
      have c3 := (EB.cell _ _ _ _ _ _ heb).2.2.2
      have hi1 : i + 1 ≤ 1000000000 := by omega
      have hq5 : qq ≤ 100000 := by omega
      have hcl := cnts_take_le pl (i + 1)
      have hct := pcn_take pl i
      have HP := Lib.hid (part_any k n pl IH.out w0 wr.drew g m' sc _ (HPr.out.below' (Below.refl _ _).drew) po pc i (by omega) (by omega) HR.out HN.out)
      have HS0 : Hid (But2 W0.heap.size g ge wr wr.drew) := But2.drew2 _ _ _ _
      clear hcl hct
      go_upto_region 29 with fail
      refine wp_region_noPanic ?_
      refine wp_region_held_drew (S := But2 W0.heap.size g ge wr) (by kernel_rfl) (But2.drew2 _ _ _ _) (fun hHeld => ?_)
      refine wpAnyH_take (i := 0) (v := Value.pointer (some ⟨ge, 3, none⟩)) rfl (by kernel_rfl) (by kernel_rfl) (by kernel_rfl) (fun _ _ _ h => h) (Or.inl ⟨rfl, fun w' hw' => ?_⟩) hHeld ?_
      · go_simp
      simp only [List.getElem_toArray, List.getElem_cons_succ, List.getElem_cons_zero, Act.put, List.setIfInBounds_toArray, List.set_cons_zero, List.set_cons_succ]
      refine wpAnyH_take (i := 2) (v := Value.pointer (some ⟨g, 0, none⟩)) rfl (by kernel_rfl) (by kernel_rfl) (by kernel_rfl) (fun _ _ _ h => h) (Or.inl ⟨rfl, fun w' hw' => ?_⟩) hHeld ?_
      · go_simp
      simp only [List.getElem_toArray, List.getElem_cons_succ, List.getElem_cons_zero, Act.put, List.setIfInBounds_toArray, List.set_cons_zero, List.set_cons_succ]
      refine wpAnyH_take (i := 3) rfl (by kernel_rfl) (by kernel_rfl) (by kernel_rfl) (fun _ _ _ h => h) (yieldsIf_load_mid (by rfl) _ _ rfl w.heap.size 0 rfl [.int .i64 k, .int .i64 n, .slice po pl.length pc] _ (fun w' hw' => row_rangeB ((hw'.block w.heap.size hbW hbg hbe).trans HRr.out)) Tryd.underlying53 rfl info53) hHeld ?_
      simp only [List.getElem_toArray, List.getElem_cons_succ, List.getElem_cons_zero, Act.put, List.setIfInBounds_toArray, List.set_cons_zero, List.set_cons_succ]
      refine wpAnyH_take (i := 4) (v := Value.int .i64 (i : Int)) rfl (by kernel_rfl) (by kernel_rfl) (by kernel_rfl) (fun _ _ _ h => h) (Or.inl ⟨rfl, fun w' hw' => ?_⟩) hHeld ?_
      · go_simp
      simp only [List.getElem_toArray, List.getElem_cons_succ, List.getElem_cons_zero, Act.put, List.setIfInBounds_toArray, List.set_cons_zero, List.set_cons_succ]
      refine wpAnyH_take (i := 5) (v := Value.slice so sc.length sc1) rfl (by kernel_rfl) (by kernel_rfl) (by kernel_rfl) (fun _ _ _ h => h) (Or.inl ⟨rfl, fun w' hw' => ?_⟩) hHeld ?_
      · go_simp
      simp only [List.getElem_toArray, List.getElem_cons_succ, List.getElem_cons_zero, Act.put, List.setIfInBounds_toArray, List.set_cons_zero, List.set_cons_succ]
      refine wpAnyH_ready (rs := [1, 6]) (by kernel_rfl) (by simp) ?_
      refine (AllReadyH.cons rfl (fun K hK => ?_) (AllReadyH.cons rfl (fun K hK => ?_) AllReadyH.nil))
      · skip
        go_simp
        refine hK.out _ _ HS0.out (fun hHeld => ?_)
        clear hK K
        try simp only [List.getElem_toArray, List.getElem_cons_succ, List.getElem_cons_zero, Act.put, List.setIfInBounds_toArray, List.set_cons_zero, List.set_cons_succ]
        refine wpAnyH_ready (rs := [6]) (by kernel_rfl) (by simp) ?_
        refine (AllReadyH.cons rfl (fun K hK => ?_) AllReadyH.nil)
        go_simp
        refine HP.out.mono ?_
        rintro e w7 ⟨cs, t, m'', rfl, hat, hMt, htz, hm'', hmk7, hb7⟩
        have hb7 : But wr.heap.size g wr w7 := ((But.refl wr.heap.size g wr).drew).trans hb7
        obtain ⟨k5, t5, nv5, av5, rfl, o1, o2⟩ := EAt_form hat
        obtain ⟨S7, c7, S8, c8, xs, hx8, hB8, hc9⟩ := LA.step hiq hown heb hM hmk hl hq5 hsz hmm hbut hgb hgeb hne (Et.At.mono (fun _ h => h) _ _ hat) rfl hMt htz hm'' hmk7 hb7
        have HS7 := Lib.hid S7
        have HS8 := Lib.hid S8
        have HX := Lib.hid hx8
        have HB8 := Lib.hid hB8
        have HC := Lib.hid hc9
        have HONE : Hid (nv5.oneCell' = true ∧ av5.oneCell' = true) := ⟨o1, o2⟩
        have HBW := Lib.hid hb7.size
        clear hat hMt htz hm'' hmk7 hb7 S7 S8 hx8 hB8 hc9 o1 o2
        refine hK.out _ _ HS7.out (fun hHeld => ?_)
        clear hK K
        try simp only [List.getElem_toArray, List.getElem_cons_succ, List.getElem_cons_zero, Act.put, List.setIfInBounds_toArray, List.set_cons_zero, List.set_cons_succ]
        refine wpAnyH_ready (rs := [7]) (by kernel_rfl) (by simp) ?_
        refine (AllReadyH.cons rfl (fun K hK => ?_) AllReadyH.nil)
        go_simp
        refine hK.out _ _ HS8.out (fun hHeld => ?_)
        clear hK K
        try simp only [List.getElem_toArray, List.getElem_cons_succ, List.getElem_cons_zero, Act.put, List.setIfInBounds_toArray, List.set_cons_zero, List.set_cons_succ]
        refine wpAnyH_ready (rs := [8]) (by kernel_rfl) (by simp) ?_
        refine (AllReadyH.cons rfl (fun K hK => ?_) AllReadyH.nil)
        refine wp_app (Operand.tmp 109) (Operand.tmp 115) rfl W0.heap.size (.slice ao i ac) i xs rfl HX.out _ 1 rfl #[.int .i64 k5, .string t5, nv5, av5].toList rfl (row_cells _ _) (one_cells HONE.out) hi1 HB8.out ?_
        intro v' w9 hown9 hg9 hv9
        obtain ⟨ao', ac', rfl⟩ := own_form hown9
        obtain ⟨S9, e9, f9, S10, HREL⟩ := HC.out _ _ _ hown9 hg9 hv9
        have HS9 := Lib.hid S9
        have HS10 := Lib.hid S10
        have HR := Lib.hid HREL
        clear hown9 hg9 hv9 S9 S10 HREL
        refine hK.out _ _ HS9.out (fun hHeld => ?_)
        clear hK K
        try simp only [List.getElem_toArray, List.getElem_cons_succ, List.getElem_cons_zero, Act.put, List.setIfInBounds_toArray, List.set_cons_zero, List.set_cons_succ]
        refine wpAnyH_take (i := 9) (v := Value.pointer (some ⟨ge, 3, none⟩)) rfl (by kernel_rfl) (by kernel_rfl) (by kernel_rfl) (fun _ _ _ h => h) (Or.inl ⟨rfl, fun w' hw' => ?_⟩) hHeld ?_
        · go_simp
        simp only [List.getElem_toArray, List.getElem_cons_succ, List.getElem_cons_zero, Act.put, List.setIfInBounds_toArray, List.set_cons_zero, List.set_cons_succ]
        refine wpAnyH_ready (rs := [10]) (by kernel_rfl) (by simp) ?_
        refine (AllReadyH.cons rfl (fun K hK => ?_) AllReadyH.nil)
        go_simp
        refine hK.out _ _ HS10.out (fun hHeld => ?_)
        clear hK K
        try simp only [List.getElem_toArray, List.getElem_cons_succ, List.getElem_cons_zero, Act.put, List.setIfInBounds_toArray, List.set_cons_zero, List.set_cons_succ]
        refine wpAnyH_done (by kernel_rfl) ?_ _
        refine NoPanic.normal ?_
        clear hHeld
        go_wp2_with fail
        go_roundw
        case rel => exact HR.out
        case measure => simp [intOf]; omega
      · skip
        go_simp
        refine HP.out.mono ?_
        rintro e w7 ⟨cs, t, m'', rfl, hat, hMt, htz, hm'', hmk7, hb7⟩
        have hb7 : But wr.heap.size g wr w7 := ((But.refl wr.heap.size g wr).drew).trans hb7
        obtain ⟨k5, t5, nv5, av5, rfl, o1, o2⟩ := EAt_form hat
        obtain ⟨S7, c7, S8, c8, xs, hx8, hB8, hc9⟩ := LA.step hiq hown heb hM hmk hl hq5 hsz hmm hbut hgb hgeb hne (Et.At.mono (fun _ h => h) _ _ hat) rfl hMt htz hm'' hmk7 hb7
        have HS7 := Lib.hid S7
        have HS8 := Lib.hid S8
        have HX := Lib.hid hx8
        have HB8 := Lib.hid hB8
        have HC := Lib.hid hc9
        have HONE : Hid (nv5.oneCell' = true ∧ av5.oneCell' = true) := ⟨o1, o2⟩
        have HBW := Lib.hid hb7.size
        clear hat hMt htz hm'' hmk7 hb7 S7 S8 hx8 hB8 hc9 o1 o2
        refine hK.out _ _ HS7.out (fun hHeld => ?_)
        clear hK K
        try simp only [List.getElem_toArray, List.getElem_cons_succ, List.getElem_cons_zero, Act.put, List.setIfInBounds_toArray, List.set_cons_zero, List.set_cons_succ]
        refine wpAnyH_ready (rs := [1, 7]) (by kernel_rfl) (by simp) ?_
        refine (AllReadyH.cons rfl (fun K hK => ?_) (AllReadyH.cons rfl (fun K hK => ?_) AllReadyH.nil))
        · skip
          go_simp
          refine hK.out _ _ HS7.out (fun hHeld => ?_)
          clear hK K
          try simp only [List.getElem_toArray, List.getElem_cons_succ, List.getElem_cons_zero, Act.put, List.setIfInBounds_toArray, List.set_cons_zero, List.set_cons_succ]
          refine wpAnyH_ready (rs := [7]) (by kernel_rfl) (by simp) ?_
          refine (AllReadyH.cons rfl (fun K hK => ?_) AllReadyH.nil)
          go_simp
          refine hK.out _ _ HS8.out (fun hHeld => ?_)
          clear hK K
          try simp only [List.getElem_toArray, List.getElem_cons_succ, List.getElem_cons_zero, Act.put, List.setIfInBounds_toArray, List.set_cons_zero, List.set_cons_succ]
          refine wpAnyH_ready (rs := [8]) (by kernel_rfl) (by simp) ?_
          refine (AllReadyH.cons rfl (fun K hK => ?_) AllReadyH.nil)
          refine wp_app (Operand.tmp 109) (Operand.tmp 115) rfl W0.heap.size (.slice ao i ac) i xs rfl HX.out _ 1 rfl #[.int .i64 k5, .string t5, nv5, av5].toList rfl (row_cells _ _) (one_cells HONE.out) hi1 HB8.out ?_
          intro v' w9 hown9 hg9 hv9
          obtain ⟨ao', ac', rfl⟩ := own_form hown9
          obtain ⟨S9, e9, f9, S10, HREL⟩ := HC.out _ _ _ hown9 hg9 hv9
          have HS9 := Lib.hid S9
          have HS10 := Lib.hid S10
          have HR := Lib.hid HREL
          clear hown9 hg9 hv9 S9 S10 HREL
          refine hK.out _ _ HS9.out (fun hHeld => ?_)
          clear hK K
          try simp only [List.getElem_toArray, List.getElem_cons_succ, List.getElem_cons_zero, Act.put, List.setIfInBounds_toArray, List.set_cons_zero, List.set_cons_succ]
          refine wpAnyH_take (i := 9) (v := Value.pointer (some ⟨ge, 3, none⟩)) rfl (by kernel_rfl) (by kernel_rfl) (by kernel_rfl) (fun _ _ _ h => h) (Or.inl ⟨rfl, fun w' hw' => ?_⟩) hHeld ?_
          · go_simp
          simp only [List.getElem_toArray, List.getElem_cons_succ, List.getElem_cons_zero, Act.put, List.setIfInBounds_toArray, List.set_cons_zero, List.set_cons_succ]
          refine wpAnyH_ready (rs := [10]) (by kernel_rfl) (by simp) ?_
          refine (AllReadyH.cons rfl (fun K hK => ?_) AllReadyH.nil)
          go_simp
          refine hK.out _ _ HS10.out (fun hHeld => ?_)
          clear hK K
          try simp only [List.getElem_toArray, List.getElem_cons_succ, List.getElem_cons_zero, Act.put, List.setIfInBounds_toArray, List.set_cons_zero, List.set_cons_succ]
          refine wpAnyH_done (by kernel_rfl) ?_ _
          refine NoPanic.normal ?_
          clear hHeld
          go_wp2_with fail
          go_roundw
          case rel => exact HR.out
          case measure => simp [intOf]; omega
        · skip
          go_simp
          refine hK.out _ _ HS8.out (fun hHeld => ?_)
          clear hK K
          try simp only [List.getElem_toArray, List.getElem_cons_succ, List.getElem_cons_zero, Act.put, List.setIfInBounds_toArray, List.set_cons_zero, List.set_cons_succ]
          refine wpAnyH_ready (rs := [1]) (by kernel_rfl) (by simp) ?_
          refine (AllReadyH.cons rfl (fun K hK => ?_) AllReadyH.nil)
          go_simp
          refine hK.out _ _ HS8.out (fun hHeld => ?_)
          clear hK K
          try simp only [List.getElem_toArray, List.getElem_cons_succ, List.getElem_cons_zero, Act.put, List.setIfInBounds_toArray, List.set_cons_zero, List.set_cons_succ]
          refine wpAnyH_ready (rs := [8]) (by kernel_rfl) (by simp) ?_
          refine (AllReadyH.cons rfl (fun K hK => ?_) AllReadyH.nil)
          refine wp_app (Operand.tmp 109) (Operand.tmp 115) rfl W0.heap.size (.slice ao i ac) i xs rfl HX.out _ 1 rfl #[.int .i64 k5, .string t5, nv5, av5].toList rfl (row_cells _ _) (one_cells HONE.out) hi1 HB8.out ?_
          intro v' w9 hown9 hg9 hv9
          obtain ⟨ao', ac', rfl⟩ := own_form hown9
          obtain ⟨S9, e9, f9, S10, HREL⟩ := HC.out _ _ _ hown9 hg9 hv9
          have HS9 := Lib.hid S9
          have HS10 := Lib.hid S10
          have HR := Lib.hid HREL
          clear hown9 hg9 hv9 S9 S10 HREL
          refine hK.out _ _ HS9.out (fun hHeld => ?_)
          clear hK K
          try simp only [List.getElem_toArray, List.getElem_cons_succ, List.getElem_cons_zero, Act.put, List.setIfInBounds_toArray, List.set_cons_zero, List.set_cons_succ]
          refine wpAnyH_take (i := 9) (v := Value.pointer (some ⟨ge, 3, none⟩)) rfl (by kernel_rfl) (by kernel_rfl) (by kernel_rfl) (fun _ _ _ h => h) (Or.inl ⟨rfl, fun w' hw' => ?_⟩) hHeld ?_
          · go_simp
          simp only [List.getElem_toArray, List.getElem_cons_succ, List.getElem_cons_zero, Act.put, List.setIfInBounds_toArray, List.set_cons_zero, List.set_cons_succ]
          refine wpAnyH_ready (rs := [10]) (by kernel_rfl) (by simp) ?_
          refine (AllReadyH.cons rfl (fun K hK => ?_) AllReadyH.nil)
          go_simp
          refine hK.out _ _ HS10.out (fun hHeld => ?_)
          clear hK K
          try simp only [List.getElem_toArray, List.getElem_cons_succ, List.getElem_cons_zero, Act.put, List.setIfInBounds_toArray, List.set_cons_zero, List.set_cons_succ]
          refine wpAnyH_done (by kernel_rfl) ?_ _
          refine NoPanic.normal ?_
          clear hHeld
          go_wp2_with fail
          go_roundw
          case rel => exact HR.out
          case measure => simp [intOf]; omega
    · have q1 : decide ((i : Int) < (qq : Int)) = false := decide_eq_false (by omega)
      obtain rfl : i = qq := by omega
      have hz : wr.heap[w.heap.size + 1]? = some (.cells Z4 28 (0, 0)) := (hbut.block _ (by omega) (by omega) hge1).trans HZ3b.out
      have hcl := cnts_take_le pl i
      have hMM : Made sc m m' (.mk 7 ⟨#[]⟩ [] l) := MadeL.node (sc := sc) (ns := []) (b := m) (by rw [List.append_nil]; exact hM) (Nat.le_refl _) (nms_self m).symm (by omega) (by simp) (by decide) (by decide) (by rw [hl]; simp [shapeB, textB, namesB, partsB, Lib.toList_data]; omega)
      obtain ⟨hone, hfin⟩ := made_exit (c := 2 * (1 + Rw.cnts pl)) (s := 4 * (1 + Rw.cnts pl)) (sc := sc) (ns := []) (m := m) (a := 0) hz (.inl ⟨rfl, rfl⟩) (hown.at.mono (fun x hx => by have : W0.heap.size ≤ x := hx; omega)) hMM (by omega) (by omega) hmk ((But.of HB3.out).trans (hbut.to (by omega) (by omega))) hgw
      have HF := Lib.hid hfin
      have HZ := Lib.hid hz
      have HEB := Lib.hid heb
      clear hfin hz hown hM hMM heb hbut
      go_wp2_with (first | (refine wpList_load_row rfl 28 _ rfl ge rfl 28 #[.int .i64 7, .string ⟨#[]⟩, .slice none 0 0, .slice ao i ac] (0, 0) _ HEB.out Tryd.underlying28 rfl info28 ?_) | (refine wpList_store_row rfl 28 _ _ rfl (w.heap.size + 1) #[.int .i64 7, .string ⟨#[]⟩, .slice none 0 0, .slice ao i ac] rfl rfl 28 Z4 HZ.out info28 rfl hone ?_))
      refine bodyPost_ret (results_cell_row rfl _ _ (w.heap.size + 1) 28 #[.int .i64 7, .string ⟨#[]⟩, .slice none 0 0, .slice ao i ac] (0, 0) _ rfl (setRow_heap wr _ _ _ 28 _ HZ.out) Tryd.underlying28 rfl info28) rfl ?_
      exact HF.out
end Go.Proofs.YtmcgocbkjdacaaaDoor
