/- put: its walk. -/
import Derived.Test.YtkjcbaikebdmmaaDoorJ5
namespace Go.Proofs.YtkjcbaikebdmmaaDoor
open Go.RowKit
set_option linter.unusedVariables false
set_option linter.unusedSimpArgs false
theorem box_range {b : Nat} {k : Int} {t : ByteArray} {mv lv : Value} {p : Int} {w : World} (h : Boxed b #[.int .i64 k, .string t, mv, lv, .int .i64 p] w) : w.rangeAt b 0 [.int .i64 k, .string t, mv, lv, .int .i64 p] := by
  intro j v hv
  rw [Lib.cell_of_heap h]
  simpa using hv
set_option maxHeartbeats 4000000 in
set_option maxRecDepth 100000 in
theorem put_any {S : Nat → Prop} {B g m c n N : Nat} {arr : Array Value} {v : Value} {ds : List Dt} {d : Dt} {w : World} {k : Int} {t : ByteArray} {mv lv : Value} {p : Int} (hN : N = m + 1) (hNb : N ≤ 100000) (hB : B ≤ w.heap.size)
    (hg : w.heap[g]? = some (.cells arr 55 (0, 0))) (hv : arr[m * 6 + 3]? = some v) (hS : ∀ x, S x → B ≤ x ∧ v.ownBlock ≠ some x) (hown : OwnS S B w v ds) (hn : ds.length = n) (hnb : n ≤ 100000) (hgB : v.ownBlock ≠ some g) (hd : Dt.At S w d #[.int .i64 k, .string t, mv, lv, .int .i64 p]) :
    Calls Tryd.prog 34 #[.slice (some ⟨g, 0, none⟩) N c, .agg #[.int .i64 k, .string t, mv, lv, .int .i64 p]] w fun e w' => e = .returned (.tuple #[]) ∧ PutDone S B g (m * 6 + 3) arr v (ds ++ [d]) w w' := by
  have hgl : g < w.heap.size := (Array.getElem?_eq_some_iff.1 hg).1
  obtain ⟨o1, o2⟩ := At_one hd
  have z1 : (#[.int .i64 k, .string t, mv, lv, .int .i64 p] : Array Value).all (·.oneCell') = true := by simp [Value.oneCell'] at o1 o2 ⊢; exact ⟨o1, o2⟩
  have FI : Hid (∀ w, Calls Tryd.prog 31 #[.slice (some ⟨g, 0, none⟩) N c] w fun e w' => e = .returned (.pointer (some ⟨g, m * 6, none⟩)) ∧ w = w') := fun w => by
    have h := inner_any g N c w (by omega) hNb
    rw [show N - 1 = m by omega] at h
    exact h
  have hW := alloc_at w (.cells #[.int .i64 k, .string t, mv, lv, .int .i64 p] 40)
  have hW2 := Lib.hid ((Below.refl w.heap.size w).alloc (Nat.le_refl _) (.cells #[.int .i64 k, .string t, mv, lv, .int .i64 p] 40))
  have hWs : Hid ((w.alloc (.cells #[.int .i64 k, .string t, mv, lv, .int .i64 p] 40)).heap.size = w.heap.size + 1) := by show _ = _; simp
  have HW := Lib.hid hW
  obtain ⟨so, sn, sc, hvf⟩ : ∃ ao l c, v = .slice ao l c := by obtain ⟨xs, ho, _⟩ := hown; exact own_form ho
  have hsn : Hid (sn = n) := by
    show _ = _
    obtain ⟨xs, ho, _⟩ := hown
    rcases ho.2 with ⟨e, hz⟩ | ⟨g1, cap, cu, e, _⟩
    · rw [hvf] at e; injection e with _ e _; omega
    · rw [hvf] at e; injection e with _ e _; omega
  have HST := Lib.hid (fun WD hb hs hx => put_step (WD := WD) (m := m) hB hg hv hS hown hn hgB hd hb hs hx)
  clear hg hv hS hown hn hgB hd hW hB hN hNb
  go_enter Tryd.func34, Tryd.ntmps34
  go_upto_region 1 with fail
  change Code.wp Tryd.prog _ _ _ (w.alloc (.cells #[.int .i64 k, .string t, mv, lv, .int .i64 p] 40))
  have hsz := hWs.out
  generalize w.alloc (.cells #[.int .i64 k, .string t, mv, lv, .int .i64 p] 40) = W at HW hW2 hWs hsz ⊢
  go_wp2_with fail
  refine (FI.out _).mono ?_
  rintro e w' ⟨rfl, rfl⟩
  go_upto_region 2 with fail
  refine wp_region_noPanic ?_
  obtain ⟨WD, hWD⟩ : ∃ x, x = W.drew := ⟨_, rfl⟩
  have hx : Boxed w.heap.size #[.int .i64 k, .string t, mv, lv, .int .i64 p] WD := by rw [hWD]; exact HW.out
  have hb : Below w.heap.size w WD := by rw [hWD]; exact hW2.out.drew
  have hs : WD.heap.size = w.heap.size + 1 := by rw [hWD]; exact hsz
  obtain ⟨xs, c1, c2, x2, hown8, hB8, HNX⟩ := HST.out WD hb hs hx
  refine wp_region_held_drew (S := Boxed w.heap.size #[.int .i64 k, .string t, mv, lv, .int .i64 p]) (by kernel_rfl) (by rw [← hWD]; exact hx) (fun hHeld => ?_)
  rw [← hWD] at hHeld ⊢
  subst hvf
  have hsn' := hsn.out
  subst hsn'
  have HC1 := Lib.hid c1
  have HC2 := Lib.hid c2
  have HX2 := Lib.hid x2
  have HO := Lib.hid hown8
  have HN := Lib.hid HNX
  clear c1 c2 x2 hown8 HNX HST hWD hx hb hs hsn
  refine wpAnyH_take (i := 0) (v := Value.pointer (some ⟨g, m * 6, none⟩)) rfl (by kernel_rfl) (by kernel_rfl) (by kernel_rfl) (fun _ _ _ h => h) (Or.inl ⟨rfl, fun w' hw' => ?_⟩) hHeld ?_
  · go_simp
  simp only [List.getElem_toArray, List.getElem_cons_succ, List.getElem_cons_zero, Act.put, List.setIfInBounds_toArray, List.set_cons_zero, List.set_cons_succ]
  refine wpAnyH_take (i := 1) (v := Value.pointer (some ⟨g, m * 6, none⟩)) rfl (by kernel_rfl) (by kernel_rfl) (by kernel_rfl) (fun _ _ _ h => h) (Or.inl ⟨rfl, fun w' hw' => ?_⟩) hHeld ?_
  · go_simp
  simp only [List.getElem_toArray, List.getElem_cons_succ, List.getElem_cons_zero, Act.put, List.setIfInBounds_toArray, List.set_cons_zero, List.set_cons_succ]
  refine wpAnyH_take (i := 2) (v := Value.pointer (some ⟨g, m * 6, none⟩)) rfl (by kernel_rfl) (by kernel_rfl) (by kernel_rfl) (fun _ _ _ h => h) (Or.inl ⟨rfl, fun w' hw' => ?_⟩) hHeld ?_
  · go_simp
  simp only [List.getElem_toArray, List.getElem_cons_succ, List.getElem_cons_zero, Act.put, List.setIfInBounds_toArray, List.set_cons_zero, List.set_cons_succ]
  refine wpAnyH_take (i := 3) (v := Value.pointer (some ⟨g, m * 6 + 3, none⟩)) rfl (by kernel_rfl) (by kernel_rfl) (by kernel_rfl) (fun _ _ _ h => h) (Or.inl ⟨rfl, fun w' hw' => ?_⟩) hHeld ?_
  · go_simp
  simp only [List.getElem_toArray, List.getElem_cons_succ, List.getElem_cons_zero, Act.put, List.setIfInBounds_toArray, List.set_cons_zero, List.set_cons_succ]
  refine wpAnyH_take (i := 5) rfl (by kernel_rfl) (by kernel_rfl) (by kernel_rfl) (fun _ _ _ h => h) (yieldsIf_load_mid (by rfl) _ _ rfl w.heap.size 0 rfl [.int .i64 k, .string t, mv, lv, .int .i64 p] _ (fun w' hw' => box_range hw') Tryd.underlying40 rfl info40) hHeld ?_
  simp only [List.getElem_toArray, List.getElem_cons_succ, List.getElem_cons_zero, Act.put, List.setIfInBounds_toArray, List.set_cons_zero, List.set_cons_succ]
  refine wpAnyH_ready (rs := [4, 7]) (by kernel_rfl) (by simp) ?_
  refine (AllReadyH.cons rfl (fun K hK => ?_) (AllReadyH.cons rfl (fun K hK => ?_) AllReadyH.nil))
  · skip
    have cl := HC1.out
    go_simp
    refine hK.out _ _ hHeld (fun hHeld => ?_)
    clear hK K cl
    try simp only [List.getElem_toArray, List.getElem_cons_succ, List.getElem_cons_zero, Act.put, List.setIfInBounds_toArray, List.set_cons_zero, List.set_cons_succ]
    refine wpAnyH_take (i := 6) (v := Value.int .i64 sn) rfl (by kernel_rfl) (by kernel_rfl) (by kernel_rfl) (fun _ _ _ h => h) (Or.inl ⟨rfl, fun w' hw' => ?_⟩) hHeld ?_
    · go_simp
    simp only [List.getElem_toArray, List.getElem_cons_succ, List.getElem_cons_zero, Act.put, List.setIfInBounds_toArray, List.set_cons_zero, List.set_cons_succ]
    refine wpAnyH_ready (rs := [7]) (by kernel_rfl) (by simp) ?_
    refine (AllReadyH.cons rfl (fun K hK => ?_) AllReadyH.nil)
    go_simp
    refine hK.out _ _ HX2.out (fun hHeld => ?_)
    clear hK K
    try simp only [List.getElem_toArray, List.getElem_cons_succ, List.getElem_cons_zero, Act.put, List.setIfInBounds_toArray, List.set_cons_zero, List.set_cons_succ]
    refine wpAnyH_ready (rs := [8]) (by kernel_rfl) (by simp) ?_
    refine (AllReadyH.cons rfl (fun K hK => ?_) AllReadyH.nil)
    rw [if_pos (by rfl)]
    refine wp_app (Operand.tmp 11) (Operand.tmp 14) rfl B (.slice so sn sc) sn xs rfl HO.out WD.heap.size 1 rfl [.int .i64 0, .string ⟨#[]⟩, .slice none 0 0, .slice none 0 0, .int .i64 0] rfl (fun i u hu => ?_) (by simp [Value.oneCell']) (by omega) hB8 ?_
    · rw [Lib.cell_of_heap (alloc_at WD (.cells #[.int .i64 0, .string ⟨#[]⟩, .slice none 0 0, .slice none 0 0, .int .i64 0] 40))]; simpa using hu
    intro v' w9 hown9 hg9 hv9
    obtain ⟨g', c', rfl, hc', x9, HA, HB⟩ := HN.out v' w9 hown9 hg9 hv9
    clear hown9 hg9 hv9
    refine hK.out _ _ x9 (fun hHeld => ?_)
    clear hK K x9
    try simp only [List.getElem_toArray, List.getElem_cons_succ, List.getElem_cons_zero, Act.put, List.setIfInBounds_toArray, List.set_cons_zero, List.set_cons_succ]
    refine wpAnyH_take (i := 9) (v := Value.pointer (some ⟨g', sn * 5, none⟩)) rfl (by kernel_rfl) (by kernel_rfl) (by kernel_rfl) (fun _ _ _ h => h) (Or.inl ⟨rfl, fun w' hw' => ?_⟩) hHeld ?_
    · go_simp; intro hq; omega
    simp only [List.getElem_toArray, List.getElem_cons_succ, List.getElem_cons_zero, Act.put, List.setIfInBounds_toArray, List.set_cons_zero, List.set_cons_succ]
    refine wpAnyH_take (i := 11) (v := Value.pointer (some ⟨g, m * 6, none⟩)) rfl (by kernel_rfl) (by kernel_rfl) (by kernel_rfl) (fun _ _ _ h => h) (Or.inl ⟨rfl, fun w' hw' => ?_⟩) hHeld ?_
    · go_simp
    simp only [List.getElem_toArray, List.getElem_cons_succ, List.getElem_cons_zero, Act.put, List.setIfInBounds_toArray, List.set_cons_zero, List.set_cons_succ]
    refine wpAnyH_take (i := 12) (v := Value.pointer (some ⟨g, m * 6, none⟩)) rfl (by kernel_rfl) (by kernel_rfl) (by kernel_rfl) (fun _ _ _ h => h) (Or.inl ⟨rfl, fun w' hw' => ?_⟩) hHeld ?_
    · go_simp
    simp only [List.getElem_toArray, List.getElem_cons_succ, List.getElem_cons_zero, Act.put, List.setIfInBounds_toArray, List.set_cons_zero, List.set_cons_succ]
    refine wpAnyH_take (i := 13) (v := Value.pointer (some ⟨g, m * 6 + 3, none⟩)) rfl (by kernel_rfl) (by kernel_rfl) (by kernel_rfl) (fun _ _ _ h => h) (Or.inl ⟨rfl, fun w' hw' => ?_⟩) hHeld ?_
    · go_simp
    simp only [List.getElem_toArray, List.getElem_cons_succ, List.getElem_cons_zero, Act.put, List.setIfInBounds_toArray, List.set_cons_zero, List.set_cons_succ]
    refine wpAnyH_ready (rs := [10, 14]) (by kernel_rfl) (by simp) ?_
    refine (AllReadyH.cons rfl (fun K hK => ?_) (AllReadyH.cons rfl (fun K hK => ?_) AllReadyH.nil))
    · skip
      obtain ⟨th, xS, cc, cf, xT, hd⟩ := HA
      have HXT := Lib.hid xT
      have HD := Lib.hid hd
      rw [if_pos (by rfl)]
      refine wp_store_mid 40 _ _ rfl g' (sn * 5) #[.int .i64 k, .string t, mv, lv, .int .i64 p] rfl rfl th info40 z1 ?_
      refine hK.out _ _ xS (fun hHeld => ?_)
      clear hK K xS th xT hd HB
      try simp only [List.getElem_toArray, List.getElem_cons_succ, List.getElem_cons_zero, Act.put, List.setIfInBounds_toArray, List.set_cons_zero, List.set_cons_succ]
      refine wpAnyH_ready (rs := [14]) (by kernel_rfl) (by simp) ?_
      refine (AllReadyH.cons rfl (fun K hK => ?_) AllReadyH.nil)
      go_simp
      refine hK.out _ _ HXT.out (fun hHeld => ?_)
      clear hK K cc cf
      try simp only [List.getElem_toArray, List.getElem_cons_succ, List.getElem_cons_zero, Act.put, List.setIfInBounds_toArray, List.set_cons_zero, List.set_cons_succ]
      refine wpAnyH_done (by kernel_rfl) ?_ _
      refine NoPanic.normal ?_
      go_wp2_with fail
      go_end0
      exact ⟨rfl, HD.out⟩
    · skip
      obtain ⟨cc, cf, xS, th, xT, hd⟩ := HB
      have HXT := Lib.hid xT
      have HD := Lib.hid hd
      have HTH := Lib.hid th
      go_simp
      refine hK.out _ _ xS (fun hHeld => ?_)
      clear hK K xS th xT hd HA cc cf
      try simp only [List.getElem_toArray, List.getElem_cons_succ, List.getElem_cons_zero, Act.put, List.setIfInBounds_toArray, List.set_cons_zero, List.set_cons_succ]
      refine wpAnyH_ready (rs := [10]) (by kernel_rfl) (by simp) ?_
      refine (AllReadyH.cons rfl (fun K hK => ?_) AllReadyH.nil)
      rw [if_pos (by rfl)]
      refine wp_store_mid 40 _ _ rfl g' (sn * 5) #[.int .i64 k, .string t, mv, lv, .int .i64 p] rfl rfl HTH.out info40 z1 ?_
      refine hK.out _ _ HXT.out (fun hHeld => ?_)
      clear hK K
      try simp only [List.getElem_toArray, List.getElem_cons_succ, List.getElem_cons_zero, Act.put, List.setIfInBounds_toArray, List.set_cons_zero, List.set_cons_succ]
      refine wpAnyH_done (by kernel_rfl) ?_ _
      refine NoPanic.normal ?_
      go_wp2_with fail
      go_end0
      exact ⟨rfl, HD.out⟩
  · skip
    go_simp
    refine hK.out _ _ HX2.out (fun hHeld => ?_)
    clear hK K
    try simp only [List.getElem_toArray, List.getElem_cons_succ, List.getElem_cons_zero, Act.put, List.setIfInBounds_toArray, List.set_cons_zero, List.set_cons_succ]
    refine wpAnyH_ready (rs := [4]) (by kernel_rfl) (by simp) ?_
    refine (AllReadyH.cons rfl (fun K hK => ?_) AllReadyH.nil)
    have cl := HC2.out
    go_simp
    refine hK.out _ _ hHeld (fun hHeld => ?_)
    clear hK K cl
    try simp only [List.getElem_toArray, List.getElem_cons_succ, List.getElem_cons_zero, Act.put, List.setIfInBounds_toArray, List.set_cons_zero, List.set_cons_succ]
    refine wpAnyH_take (i := 6) (v := Value.int .i64 sn) rfl (by kernel_rfl) (by kernel_rfl) (by kernel_rfl) (fun _ _ _ h => h) (Or.inl ⟨rfl, fun w' hw' => ?_⟩) hHeld ?_
    · go_simp
    simp only [List.getElem_toArray, List.getElem_cons_succ, List.getElem_cons_zero, Act.put, List.setIfInBounds_toArray, List.set_cons_zero, List.set_cons_succ]
    refine wpAnyH_ready (rs := [8]) (by kernel_rfl) (by simp) ?_
    refine (AllReadyH.cons rfl (fun K hK => ?_) AllReadyH.nil)
    rw [if_pos (by rfl)]
    refine wp_app (Operand.tmp 11) (Operand.tmp 14) rfl B (.slice so sn sc) sn xs rfl HO.out WD.heap.size 1 rfl [.int .i64 0, .string ⟨#[]⟩, .slice none 0 0, .slice none 0 0, .int .i64 0] rfl (fun i u hu => ?_) (by simp [Value.oneCell']) (by omega) hB8 ?_
    · rw [Lib.cell_of_heap (alloc_at WD (.cells #[.int .i64 0, .string ⟨#[]⟩, .slice none 0 0, .slice none 0 0, .int .i64 0] 40))]; simpa using hu
    intro v' w9 hown9 hg9 hv9
    obtain ⟨g', c', rfl, hc', x9, HA, HB⟩ := HN.out v' w9 hown9 hg9 hv9
    clear hown9 hg9 hv9
    refine hK.out _ _ x9 (fun hHeld => ?_)
    clear hK K x9
    try simp only [List.getElem_toArray, List.getElem_cons_succ, List.getElem_cons_zero, Act.put, List.setIfInBounds_toArray, List.set_cons_zero, List.set_cons_succ]
    refine wpAnyH_take (i := 9) (v := Value.pointer (some ⟨g', sn * 5, none⟩)) rfl (by kernel_rfl) (by kernel_rfl) (by kernel_rfl) (fun _ _ _ h => h) (Or.inl ⟨rfl, fun w' hw' => ?_⟩) hHeld ?_
    · go_simp; intro hq; omega
    simp only [List.getElem_toArray, List.getElem_cons_succ, List.getElem_cons_zero, Act.put, List.setIfInBounds_toArray, List.set_cons_zero, List.set_cons_succ]
    refine wpAnyH_take (i := 11) (v := Value.pointer (some ⟨g, m * 6, none⟩)) rfl (by kernel_rfl) (by kernel_rfl) (by kernel_rfl) (fun _ _ _ h => h) (Or.inl ⟨rfl, fun w' hw' => ?_⟩) hHeld ?_
    · go_simp
    simp only [List.getElem_toArray, List.getElem_cons_succ, List.getElem_cons_zero, Act.put, List.setIfInBounds_toArray, List.set_cons_zero, List.set_cons_succ]
    refine wpAnyH_take (i := 12) (v := Value.pointer (some ⟨g, m * 6, none⟩)) rfl (by kernel_rfl) (by kernel_rfl) (by kernel_rfl) (fun _ _ _ h => h) (Or.inl ⟨rfl, fun w' hw' => ?_⟩) hHeld ?_
    · go_simp
    simp only [List.getElem_toArray, List.getElem_cons_succ, List.getElem_cons_zero, Act.put, List.setIfInBounds_toArray, List.set_cons_zero, List.set_cons_succ]
    refine wpAnyH_take (i := 13) (v := Value.pointer (some ⟨g, m * 6 + 3, none⟩)) rfl (by kernel_rfl) (by kernel_rfl) (by kernel_rfl) (fun _ _ _ h => h) (Or.inl ⟨rfl, fun w' hw' => ?_⟩) hHeld ?_
    · go_simp
    simp only [List.getElem_toArray, List.getElem_cons_succ, List.getElem_cons_zero, Act.put, List.setIfInBounds_toArray, List.set_cons_zero, List.set_cons_succ]
    refine wpAnyH_ready (rs := [10, 14]) (by kernel_rfl) (by simp) ?_
    refine (AllReadyH.cons rfl (fun K hK => ?_) (AllReadyH.cons rfl (fun K hK => ?_) AllReadyH.nil))
    · skip
      obtain ⟨th, xS, cc, cf, xT, hd⟩ := HA
      have HXT := Lib.hid xT
      have HD := Lib.hid hd
      rw [if_pos (by rfl)]
      refine wp_store_mid 40 _ _ rfl g' (sn * 5) #[.int .i64 k, .string t, mv, lv, .int .i64 p] rfl rfl th info40 z1 ?_
      refine hK.out _ _ xS (fun hHeld => ?_)
      clear hK K xS th xT hd HB
      try simp only [List.getElem_toArray, List.getElem_cons_succ, List.getElem_cons_zero, Act.put, List.setIfInBounds_toArray, List.set_cons_zero, List.set_cons_succ]
      refine wpAnyH_ready (rs := [14]) (by kernel_rfl) (by simp) ?_
      refine (AllReadyH.cons rfl (fun K hK => ?_) AllReadyH.nil)
      go_simp
      refine hK.out _ _ HXT.out (fun hHeld => ?_)
      clear hK K cc cf
      try simp only [List.getElem_toArray, List.getElem_cons_succ, List.getElem_cons_zero, Act.put, List.setIfInBounds_toArray, List.set_cons_zero, List.set_cons_succ]
      refine wpAnyH_done (by kernel_rfl) ?_ _
      refine NoPanic.normal ?_
      go_wp2_with fail
      go_end0
      exact ⟨rfl, HD.out⟩
    · skip
      obtain ⟨cc, cf, xS, th, xT, hd⟩ := HB
      have HXT := Lib.hid xT
      have HD := Lib.hid hd
      have HTH := Lib.hid th
      go_simp
      refine hK.out _ _ xS (fun hHeld => ?_)
      clear hK K xS th xT hd HA cc cf
      try simp only [List.getElem_toArray, List.getElem_cons_succ, List.getElem_cons_zero, Act.put, List.setIfInBounds_toArray, List.set_cons_zero, List.set_cons_succ]
      refine wpAnyH_ready (rs := [10]) (by kernel_rfl) (by simp) ?_
      refine (AllReadyH.cons rfl (fun K hK => ?_) AllReadyH.nil)
      rw [if_pos (by rfl)]
      refine wp_store_mid 40 _ _ rfl g' (sn * 5) #[.int .i64 k, .string t, mv, lv, .int .i64 p] rfl rfl HTH.out info40 z1 ?_
      refine hK.out _ _ HXT.out (fun hHeld => ?_)
      clear hK K
      try simp only [List.getElem_toArray, List.getElem_cons_succ, List.getElem_cons_zero, Act.put, List.setIfInBounds_toArray, List.set_cons_zero, List.set_cons_succ]
      refine wpAnyH_done (by kernel_rfl) ?_ _
      refine NoPanic.normal ?_
      go_wp2_with fail
      go_end0
      exact ⟨rfl, HD.out⟩
end Go.Proofs.YtkjcbaikebdmmaaDoor
