/- small: a machine's number as a text. -/
import Derived.Test.YthieggabkaolmaaDoorJ5
import Derived.Test.YthieggabkaolmaaDoorV2
import Derived.Deep.RegionHeld3
namespace Go.Proofs.YthieggabkaolmaaDoor
open Go.RowKit Go.BigM
set_option linter.unusedVariables false
set_option linter.unusedSimpArgs false

theorem conv_at (w : World) (g d : Nat) (hd : d < 10) (hg : w.heap[g]? = some (.cells #[.int .u8 (48 + (d : Int))] 5 (0, 0))) :
    (convert 25 9 (.slice (some ⟨g, 0, none⟩) 1 1)).run Tryd.prog w = .ok (.string ⟨#[UInt8.ofNat (48 + d)]⟩) w := by
  refine run_string_of _ g [UInt8.ofNat (48 + d)] ?_ 1 rfl
  unfold DRow
  rw [hg]
  have : V (List.replicate 0 0 ++ [UInt8.ofNat (48 + d)]) = #[.int .u8 (48 + (d : Int))] := by
    unfold V; simp only [List.replicate_zero, List.nil_append, List.map_cons, List.map_nil]
    rw [dig_nat d hd]; rfl
  rw [this]

/-- It returns the text of z. -/
def RetTx (w : World) (z : Int) (e : Ending) (w' : World) : Prop := ∃ s, e = .returned (.string s) ∧ Is s z ∧ Below w.heap.size w w'

theorem Is.digit (d : Nat) (hd : d < 10) : Is ⟨#[UInt8.ofNat (48 + d)]⟩ (d : Int) := by
  have h1 : ∀ d : Fin 10, Canon [UInt8.ofNat (48 + d.val)] := by decide
  have h2 : ∀ d : Fin 10, ival [UInt8.ofNat (48 + d.val)] = (d.val : Int) := by decide
  have h := Is.of ⟨#[UInt8.ofNat (48 + d)]⟩ (h1 ⟨d, hd⟩)
  have e : ival (⟨#[UInt8.ofNat (48 + d)]⟩ : ByteArray).data.toList = (d : Int) := h2 ⟨d, hd⟩
  rw [e] at h; exact h
theorem Is.snoc {s : ByteArray} {v d : Nat} (h : Is s (v : Int)) (hv : 0 < v) (hd : d < 10) (hl : 10 * v + d < Lim) : Is (s ++ ⟨#[UInt8.ofNat (48 + d)]⟩) ((10 * v + d : Nat) : Int) := by
  have hL := h.lim
  have hL' : (((10 * v + d : Nat) : Int)).natAbs < Lim := hl
  have e : (s ++ ⟨#[UInt8.ofNat (48 + d)]⟩ : ByteArray).data.toList = txtI ((10 * v + d : Nat) : Int) := by
    have e1 : (s ++ ⟨#[UInt8.ofNat (48 + d)]⟩ : ByteArray).data.toList = s.data.toList ++ [UInt8.ofNat (48 + d)] := by simp [ByteArray.data_append]
    have hc : isD (UInt8.ofNat (48 + d)) := by unfold isD; rw [dig_nat d hd]; omega
    have h2 := digs_snoc v (UInt8.ofNat (48 + d)) hc (by omega)
    rw [dig_nat d hd, Nat.add_sub_cancel_left] at h2
    rw [e1, h.2.2, txt_pos _ (by omega) hL, txt_pos _ (by omega) hL', Int.natAbs_natCast, Int.natAbs_natCast, h2]
  have sp := txtI_spec _ hL'
  exact ⟨by rw [e]; exact sp.1, by rw [e]; exact sp.2, e⟩

set_option maxHeartbeats 2000000 in
set_option maxRecDepth 100000 in
theorem small_digit (d : Nat) (hd : d < 10) (w : World) : Calls Tryd.prog 28 #[.int .i64 (d : Int)] w (RetTx w (d : Int)) := by
  have hcv := conv_digit w d hd
  have HI := Lib.hid (Is.digit d hd)
  obtain ⟨cc, hcc⟩ : ∃ cc : UInt8, cc = UInt8.ofNat (48 + d) := ⟨_, rfl⟩
  rw [← hcc] at hcv HI
  clear hcc
  go_enter Tryd.func28, Tryd.ntmps28
  go_wp2
  go_ret
  exact ⟨_, rfl, HI.out, (Below.refl _ _).alloc (Nat.le_refl _) _⟩

set_option maxHeartbeats 2000000 in
set_option maxRecDepth 100000 in
theorem small_nat (m : Nat) : ∀ (n : Nat), n ≤ m → n < 1000000000000 → ∀ w, Calls Tryd.prog 28 #[.int .i64 (n : Int)] w (RetTx w (n : Int)) := by
  induction m with
  | zero => intro n hn _ w; exact small_digit n (by omega) w
  | succ m ih =>
    intro n hn hl w
    by_cases h10 : n < 10
    · exact small_digit n h10 w
    · obtain ⟨v, hv⟩ : ∃ v, v = n / 10 := ⟨_, rfl⟩
      obtain ⟨d, hd⟩ : ∃ d, d = n % 10 := ⟨_, rfl⟩
      have hn2 : n = 10 * v + d := by omega
      have hv0 : 0 < v := by omega
      have hd10 : d < 10 := by omega
      have HC := Lib.hid (ih v (by omega) (by omega))
      have hq1 : (n : Int).tdiv 10 = (v : Int) := by rw [Int.tdiv_eq_ediv_of_nonneg (by omega)]; omega
      have hq2 : (n : Int).tmod 10 = (d : Int) := by rw [Int.tmod_eq_emod_of_nonneg (by omega)]; omega
      have hq3 : (n : Int) / 10 = (v : Int) := by omega
      have hq4 : (n : Int) % 10 = (d : Int) := by omega
      have ge : decide (10 ≤ (n : Int)) = true := decide_eq_true (by omega)
      have lt0 : decide ((n : Int) < 0) = false := decide_eq_false (by omega)
      have w1 : IntKind.i64.wrap (v : Int) = (v : Int) := IntWalk.i64_in _ (by omega)
      have w2 : IntKind.i64.wrap (d : Int) = (d : Int) := IntWalk.i64_in _ (by omega)
      have w3 : IntKind.i64.wrap (48 + (d : Int)) = 48 + (d : Int) := IntWalk.i64_in _ (by omega)
      have w4 : IntKind.u8.wrap (48 + (d : Int)) = 48 + (d : Int) := IntWalk.u8_in _ (by omega)
      have hnn : (10 : Int) ≤ (n : Int) := by omega
      obtain ⟨cc, hcc⟩ : ∃ cc : UInt8, cc = UInt8.ofNat (48 + d) := ⟨_, rfl⟩
      have HF : Hid (∀ s, Is s (v : Int) → Is (s ++ ⟨#[cc]⟩) (n : Int)) := by
        intro s hs
        rw [hcc, hn2]
        exact hs.snoc hv0 hd10 (Nat.lt_of_lt_of_le (show 10 * v + d < 10 ^ 12 by omega) (pow_Lim 12 (by decide)))
      have CV : Hid (∀ w : World, (convert 25 9 (.slice (some ⟨w.heap.size, 0, none⟩) 1 1)).run Tryd.prog (w.alloc (.cells #[.int .u8 (48 + (d : Int))] 5)) = .ok (.string ⟨#[cc]⟩) (w.alloc (.cells #[.int .u8 (48 + (d : Int))] 5))) := fun w => by rw [hcc]; exact conv_digit w d hd10
      have CA : Hid (∀ (w : World) (g : Nat), w.heap[g]? = some (.cells #[.int .u8 (48 + (d : Int))] 5 (0, 0)) → (convert 25 9 (.slice (some ⟨g, 0, none⟩) 1 1)).run Tryd.prog w = .ok (.string ⟨#[cc]⟩) w) := fun w g hg => by rw [hcc]; exact conv_at w g d hd10 hg
      clear hcc
      clear hv hd hn2 ih hn h10
      go_enter Tryd.func28, Tryd.ntmps28
      go_wp2_with fail
      refine wp_region_noPanic ?_
      refine wp_region_held_drew (S := fun w' => Below w.heap.size w w') (by kernel_rfl) (Below.drew (Below.refl _ _)) (fun hHeld => ?_)
      refine wpAnyH_take (i := 0) (v := .int .i64 (n : Int)) rfl (by kernel_rfl) (by kernel_rfl) (by kernel_rfl) (fun _ _ _ h => h) (Or.inl ⟨rfl, fun w' hw' => ?_⟩) hHeld ?_
      · go_simp
      simp only [List.getElem_toArray, List.getElem_cons_succ, List.getElem_cons_zero, Act.put, List.setIfInBounds_toArray, List.set_cons_zero, List.set_cons_succ]
      refine wpAnyH_take (i := 1) (v := .int .i64 (v : Int)) rfl (by kernel_rfl) (by kernel_rfl) (by kernel_rfl) (fun _ _ _ h => h) (Or.inl ⟨rfl, fun w' hw' => ?_⟩) hHeld ?_
      · go_simp
      simp only [List.getElem_toArray, List.getElem_cons_succ, List.getElem_cons_zero, Act.put, List.setIfInBounds_toArray, List.set_cons_zero, List.set_cons_succ]
      refine wpAnyH_take (i := 3) (v := .int .i64 (n : Int)) rfl (by kernel_rfl) (by kernel_rfl) (by kernel_rfl) (fun _ _ _ h => h) (Or.inl ⟨rfl, fun w' hw' => ?_⟩) hHeld ?_
      · go_simp
      simp only [List.getElem_toArray, List.getElem_cons_succ, List.getElem_cons_zero, Act.put, List.setIfInBounds_toArray, List.set_cons_zero, List.set_cons_succ]
      refine wpAnyH_take (i := 4) (v := .int .i64 (d : Int)) rfl (by kernel_rfl) (by kernel_rfl) (by kernel_rfl) (fun _ _ _ h => h) (Or.inl ⟨rfl, fun w' hw' => ?_⟩) hHeld ?_
      · go_simp
      simp only [List.getElem_toArray, List.getElem_cons_succ, List.getElem_cons_zero, Act.put, List.setIfInBounds_toArray, List.set_cons_zero, List.set_cons_succ]
      refine wpAnyH_take (i := 5) (v := .int .i64 (48 + (d : Int))) rfl (by kernel_rfl) (by kernel_rfl) (by kernel_rfl) (fun _ _ _ h => h) (Or.inl ⟨rfl, fun w' hw' => ?_⟩) hHeld ?_
      · go_simp
      simp only [List.getElem_toArray, List.getElem_cons_succ, List.getElem_cons_zero, Act.put, List.setIfInBounds_toArray, List.set_cons_zero, List.set_cons_succ]
      refine wpAnyH_take (i := 6) (v := .int .u8 (48 + (d : Int))) rfl (by kernel_rfl) (by kernel_rfl) (by kernel_rfl) (fun _ _ _ h => h) (Or.inl ⟨rfl, fun w' hw' => ?_⟩) hHeld ?_
      · go_simp
      simp only [List.getElem_toArray, List.getElem_cons_succ, List.getElem_cons_zero, Act.put, List.setIfInBounds_toArray, List.set_cons_zero, List.set_cons_succ]
      refine wpAnyH_ready (rs := [2, 7]) (by kernel_rfl) (by simp) ?_
      refine AllReadyH.cons rfl (fun K hK => ?_) (AllReadyH.cons rfl (fun K hK => ?_) AllReadyH.nil)
      · go_simp
        refine (HC.out _).mono ?_
        rintro e w1 ⟨s, rfl, hs, hb⟩
        have hB1 : Below w.heap.size w w1 := hHeld.trans (hb.mono hHeld.size)
        have hsz := hs.size
        refine hK.out _ _ hB1 (fun hHeld => ?_)
        clear hK K
        try simp only [List.getElem_toArray, List.getElem_cons_succ, List.getElem_cons_zero, Act.put, List.setIfInBounds_toArray, List.set_cons_zero, List.set_cons_succ]
        refine wpAnyH_ready (rs := [7]) (by kernel_rfl) (by simp) ?_
        refine AllReadyH.cons rfl (fun K hK => ?_) AllReadyH.nil
        go_simp
        refine hK.out _ _ (hB1.alloc hB1.size _) (fun hHeld => ?_)
        clear hK K
        try simp only [List.getElem_toArray, List.getElem_cons_succ, List.getElem_cons_zero, Act.put, List.setIfInBounds_toArray, List.set_cons_zero, List.set_cons_succ]
        refine wpAnyH_ready (rs := [8]) (by kernel_rfl) (by simp) ?_
        refine AllReadyH.cons rfl (fun K hK => ?_) AllReadyH.nil
        have hcv := CV.out w1
        go_simp
        refine hK.out _ _ hHeld (fun hHeld => ?_)
        clear hK K hcv
        try simp only [List.getElem_toArray, List.getElem_cons_succ, List.getElem_cons_zero, Act.put, List.setIfInBounds_toArray, List.set_cons_zero, List.set_cons_succ]
        refine wpAnyH_take (i := 9) (v := .string (s ++ ⟨#[cc]⟩)) rfl (by kernel_rfl) (by kernel_rfl) (by kernel_rfl) (fun _ _ _ h => h) (Or.inl ⟨rfl, fun w' hw' => ?_⟩) hHeld ?_
        · (go_simp; try omega)
        simp only [List.getElem_toArray, List.getElem_cons_succ, List.getElem_cons_zero, Act.put, List.setIfInBounds_toArray, List.set_cons_zero, List.set_cons_succ]
        refine wpAnyH_take (i := 10) (v := .string (s ++ ⟨#[cc]⟩)) rfl (by kernel_rfl) (by kernel_rfl) (by kernel_rfl) (fun _ _ _ h => h) (Or.inl ⟨rfl, fun w' hw' => ?_⟩) hHeld ?_
        · (go_simp; try omega)
        simp only [List.getElem_toArray, List.getElem_cons_succ, List.getElem_cons_zero, Act.put, List.setIfInBounds_toArray, List.set_cons_zero, List.set_cons_succ]
        refine wpAnyH_done (by kernel_rfl) ?_ _
        refine NoPanic.normal ?_
        go_wp2
        go_ret
        exact ⟨_, rfl, HF.out s hs, hHeld⟩
      · go_simp
        refine hK.out _ _ (Below.drew ((Below.refl _ _).alloc (Nat.le_refl _) _)) (fun hHeld => ?_)
        clear hK K
        try simp only [List.getElem_toArray, List.getElem_cons_succ, List.getElem_cons_zero, Act.put, List.setIfInBounds_toArray, List.set_cons_zero, List.set_cons_succ]
        have hg : ((w.alloc (.cells #[.int .u8 (48 + (d : Int))] 5)).drew).heap[w.heap.size]? = some (.cells #[.int .u8 (48 + (d : Int))] 5 (0, 0)) := alloc_get w _ _ rfl
        have hsz7 : w.heap.size < ((w.alloc (.cells #[.int .u8 (48 + (d : Int))] 5)).drew).heap.size := by show _ < (w.alloc _).heap.size; simp
        generalize (w.alloc (.cells #[.int .u8 (48 + (d : Int))] 5)).drew = W7 at hHeld hg hsz7 ⊢
        have hG := Lib.hid hg
        clear hg
        refine wpAnyH_ready (rs := [2, 8]) (by kernel_rfl) (by simp) ?_
        refine AllReadyH.cons rfl (fun K hK => ?_) (AllReadyH.cons rfl (fun K hK => ?_) AllReadyH.nil)
        · go_simp
          refine (HC.out _).mono ?_
          rintro e w1 ⟨s, rfl, hs, hb⟩
          have hB1 : Below w.heap.size w w1 := hHeld.trans (hb.mono hHeld.size)
          have hsz := hs.size
          have hcv := CA.out w1 w.heap.size (by rw [hb.block _ hsz7]; exact hG.out)
          refine hK.out _ _ hB1 (fun hHeld => ?_)
          clear hK K hb
          try simp only [List.getElem_toArray, List.getElem_cons_succ, List.getElem_cons_zero, Act.put, List.setIfInBounds_toArray, List.set_cons_zero, List.set_cons_succ]
          refine wpAnyH_ready (rs := [8]) (by kernel_rfl) (by simp) ?_
          refine AllReadyH.cons rfl (fun K hK => ?_) AllReadyH.nil
          go_simp
          refine hK.out _ _ hHeld (fun hHeld => ?_)
          clear hK K hcv
          try simp only [List.getElem_toArray, List.getElem_cons_succ, List.getElem_cons_zero, Act.put, List.setIfInBounds_toArray, List.set_cons_zero, List.set_cons_succ]
          refine wpAnyH_take (i := 9) (v := .string (s ++ ⟨#[cc]⟩)) rfl (by kernel_rfl) (by kernel_rfl) (by kernel_rfl) (fun _ _ _ h => h) (Or.inl ⟨rfl, fun w' hw' => ?_⟩) hHeld ?_
          · (go_simp; try omega)
          simp only [List.getElem_toArray, List.getElem_cons_succ, List.getElem_cons_zero, Act.put, List.setIfInBounds_toArray, List.set_cons_zero, List.set_cons_succ]
          refine wpAnyH_take (i := 10) (v := .string (s ++ ⟨#[cc]⟩)) rfl (by kernel_rfl) (by kernel_rfl) (by kernel_rfl) (fun _ _ _ h => h) (Or.inl ⟨rfl, fun w' hw' => ?_⟩) hHeld ?_
          · (go_simp; try omega)
          simp only [List.getElem_toArray, List.getElem_cons_succ, List.getElem_cons_zero, Act.put, List.setIfInBounds_toArray, List.set_cons_zero, List.set_cons_succ]
          refine wpAnyH_done (by kernel_rfl) ?_ _
          refine NoPanic.normal ?_
          go_wp2
          go_ret
          exact ⟨_, rfl, HF.out s hs, hHeld⟩
        · have hcv := CA.out W7 w.heap.size hG.out
          go_simp
          refine hK.out _ _ hHeld (fun hHeld => ?_)
          clear hK K hcv
          try simp only [List.getElem_toArray, List.getElem_cons_succ, List.getElem_cons_zero, Act.put, List.setIfInBounds_toArray, List.set_cons_zero, List.set_cons_succ]
          refine wpAnyH_ready (rs := [2]) (by kernel_rfl) (by simp) ?_
          refine AllReadyH.cons rfl (fun K hK => ?_) AllReadyH.nil
          go_simp
          refine (HC.out _).mono ?_
          rintro e w1 ⟨s, rfl, hs, hb⟩
          have hB1 : Below w.heap.size w w1 := hHeld.trans (hb.mono hHeld.size)
          have hsz := hs.size
          refine hK.out _ _ hB1 (fun hHeld => ?_)
          clear hK K hb
          try simp only [List.getElem_toArray, List.getElem_cons_succ, List.getElem_cons_zero, Act.put, List.setIfInBounds_toArray, List.set_cons_zero, List.set_cons_succ]
          refine wpAnyH_take (i := 9) (v := .string (s ++ ⟨#[cc]⟩)) rfl (by kernel_rfl) (by kernel_rfl) (by kernel_rfl) (fun _ _ _ h => h) (Or.inl ⟨rfl, fun w' hw' => ?_⟩) hHeld ?_
          · (go_simp; try omega)
          simp only [List.getElem_toArray, List.getElem_cons_succ, List.getElem_cons_zero, Act.put, List.setIfInBounds_toArray, List.set_cons_zero, List.set_cons_succ]
          refine wpAnyH_take (i := 10) (v := .string (s ++ ⟨#[cc]⟩)) rfl (by kernel_rfl) (by kernel_rfl) (by kernel_rfl) (fun _ _ _ h => h) (Or.inl ⟨rfl, fun w' hw' => ?_⟩) hHeld ?_
          · (go_simp; try omega)
          simp only [List.getElem_toArray, List.getElem_cons_succ, List.getElem_cons_zero, Act.put, List.setIfInBounds_toArray, List.set_cons_zero, List.set_cons_succ]
          refine wpAnyH_done (by kernel_rfl) ?_ _
          refine NoPanic.normal ?_
          go_wp2
          go_ret
          exact ⟨_, rfl, HF.out s hs, hHeld⟩

theorem small_any (z : Int) (h1 : -1000000000000 < z) (h2 : z < 1000000000000) (w : World) : Calls Tryd.prog 28 #[.int .i64 z] w (RetTx w z) := by
  by_cases h0 : 0 ≤ z
  · obtain ⟨n, rfl⟩ := Int.eq_ofNat_of_zero_le h0
    exact small_nat n n (Nat.le_refl _) (by omega) w
  · obtain ⟨n, hn⟩ : ∃ n : Nat, 0 - z = (n : Int) := ⟨(0 - z).toNat, by omega⟩
    have HC := Lib.hid (small_nat n n (Nat.le_refl _) (by omega))
    have lt0 : decide (z < 0) = true := decide_eq_true (by omega)
    have w1 : IntKind.i64.wrap (n : Int) = (n : Int) := IntWalk.i64_in _ (by omega)
    have w2 : IntKind.i64.wrap (0 - z) = (n : Int) := by rw [hn]; exact w1
    have w3 : IntKind.i64.wrap (-z) = (n : Int) := by rw [show -z = (n : Int) by omega]; exact w1
    have HZ : Hid (z = -(n : Int) ∧ 0 < n) := ⟨by omega, by omega⟩
    clear h0 hn
    go_enter Tryd.func28, Tryd.ntmps28
    go_wp2_with fail
    refine (HC.out _).mono ?_
    rintro e w4 ⟨s, rfl, hs, hb⟩
    have hsz := hs.size
    have HS := Lib.hid (hs.neg (by have := HZ.out.2; omega))
    have HB := Lib.hid hb
    clear hs hb
    go_wp2
    go_ret
    exact ⟨_, rfl, by rw [HZ.out.1]; exact HS.out, HB.out⟩
end Go.Proofs.YthieggabkaolmaaDoor
