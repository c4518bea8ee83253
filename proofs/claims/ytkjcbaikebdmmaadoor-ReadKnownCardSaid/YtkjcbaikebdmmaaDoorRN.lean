/- The walk of ReadKnown. -/
import Derived.Test.YtkjcbaikebdmmaaDoorRB
namespace Go.Proofs.YtkjcbaikebdmmaaDoor
open Go.RowKit Go.BigM
set_option linter.unusedVariables false
set_option linter.unusedSimpArgs false
def kS : List ByteArray := [⟨#[39, 97]⟩, ⟨#[39, 39, 40, 41]⟩, ⟨#[40, 97, 32, 46, 32, 98, 41]⟩, ⟨#[45, 48, 32, 48, 48, 55, 32, 45, 48, 53]⟩, ⟨#[35, 116, 35, 102]⟩, ⟨#[35, 116, 114, 117, 101]⟩, ⟨#[97, 59, 98, 32, 99, 10, 100]⟩, ⟨#[40]⟩, ⟨#[41]⟩, ⟨#[40, 97]⟩, ⟨#[39]⟩, ⟨#[40, 39, 41]⟩, ⟨#[65]⟩, ⟨#[40, 97, 32, 49, 120, 41]⟩, ⟨#[35]⟩, ⟨#[32, 9, 10, 32]⟩, ⟨#[46, 46, 46]⟩, ⟨#[40, 113, 117, 111, 116, 101, 32, 97, 41]⟩, ⟨#[45, 32, 45, 97, 32, 49, 43]⟩, ⟨#[35, 116, 41]⟩, ⟨#[97, 13, 98]⟩]
def kW : List ByteArray := [⟨#[40, 113, 117, 111, 116, 101, 32, 97, 41]⟩, ⟨#[40, 113, 117, 111, 116, 101, 32, 40, 113, 117, 111, 116, 101, 32, 40, 41, 41, 41]⟩, ⟨#[40, 97, 32, 46, 32, 98, 41]⟩, ⟨#[48, 32, 55, 32, 45, 53]⟩, ⟨#[35, 116, 32, 35, 102]⟩, ⟨#[116, 111, 107, 101, 110, 32, 48]⟩, ⟨#[97, 32, 100]⟩, ⟨#[101, 110, 100, 32, 49]⟩, ⟨#[99, 108, 111, 115, 101, 32, 48]⟩, ⟨#[101, 110, 100, 32, 50]⟩, ⟨#[101, 110, 100, 32, 49]⟩, ⟨#[99, 108, 111, 115, 101, 32, 50]⟩, ⟨#[116, 111, 107, 101, 110, 32, 48]⟩, ⟨#[116, 111, 107, 101, 110, 32, 51]⟩, ⟨#[116, 111, 107, 101, 110, 32, 48]⟩, ⟨#[]⟩, ⟨#[46, 46, 46]⟩, ⟨#[40, 113, 117, 111, 116, 101, 32, 97, 41]⟩, ⟨#[116, 111, 107, 101, 110, 32, 53]⟩, ⟨#[99, 108, 111, 115, 101, 32, 50]⟩, ⟨#[116, 111, 107, 101, 110, 32, 49]⟩]
/-- The word of an error. -/
def errW (c : Int) : ByteArray := if c = 3 then ⟨#[116, 111, 107, 101, 110]⟩ else if c = 4 then ⟨#[99, 108, 111, 115, 101]⟩ else ⟨#[101, 110, 100]⟩
/-- What is read of it is what is told. -/
def okN (s u : ByteArray) : Bool :=
  match rd s.data.toList 200 .next 0 ⟨0, false, []⟩ [] with
  | none => false
  | some (.err c p) => decide (p < 10) && (decide (c = 3) || decide (c = 4) || decide (c = 5)) && (u.data.toList == (errW c).data.toList ++ (32 :: [UInt8.ofNat (48 + p)]))
  | some (.ok ds) => (u.data.toList == Dt.txts ds) && decide (Dt.sizes ds ≤ 60) && decide (s.size ≤ 100) && decide ((Dt.txts ds).length ≤ 100)
theorem okN_all : ∀ k, k < 21 → okN (kS.getD k ⟨#[]⟩) (kW.getD k ⟨#[]⟩) = true := by decide +kernel
theorem kS_le : ∀ k, k < 21 → (kS.getD k ⟨#[]⟩).size ≤ 100 := by decide +kernel
set_option maxRecDepth 100000 in
theorem error_any (c : Int) (h : c = 3 ∨ c = 4 ∨ c = 5) (w : World) : Calls Tryd.prog 23 #[.int .i64 c] w fun e w' => e = .returned (.string (errW c)) ∧ w = w' := by
  rcases h with rfl | rfl | rfl
  · go_enter Tryd.func23, Tryd.ntmps23
    go_wp2
    go_ret
    exact ⟨rfl, rfl⟩
  · go_enter Tryd.func23, Tryd.ntmps23
    go_wp2
    go_ret
    exact ⟨rfl, rfl⟩
  · go_enter Tryd.func23, Tryd.ntmps23
    go_wp2
    go_ret
    exact ⟨rfl, rfl⟩
theorem conv_at (w : World) (g d : Nat) (hd : d < 10) (hg : w.heap[g]? = some (.cells #[.int .u8 ((48 : Int) + (d : Int))] 5 (0, 0))) :
    (convert 44 9 (.slice (some ⟨g, 0, none⟩) 1 1)).run Tryd.prog w = .ok (.string ⟨#[UInt8.ofNat (48 + d)]⟩) w := by
  refine run_string_of _ g [UInt8.ofNat (48 + d)] ?_ 1 rfl
  rw [hg]
  have h1 : (UInt8.ofNat (48 + d)).toNat = 48 + d := by rw [UInt8.toNat_ofNat_of_lt' (by show _ < 256; omega)]
  have : V [UInt8.ofNat (48 + d)] = #[.int .u8 ((48 : Int) + (d : Int))] := by
    unfold V; simp only [List.map_cons, List.map_nil]
    rw [h1]; simp
  rw [this]
/-- The loop that lays texts side by side. -/
def KtInv (l : List Dt) (w : World) (sv iv : Value) (wr : World) : Prop :=
  ∃ j : Nat, j ≤ l.length ∧ iv = .int .i64 j ∧ sv = .string ⟨(Dt.txts (l.take j)).toArray⟩ ∧ Below w.heap.size w wr
set_option maxHeartbeats 8000000 in
set_option maxRecDepth 100000 in
theorem reads_walk (a : Int) (w : World) (ha : I64 a) : Calls Tryd.prog 6 #[.int .i64 a] w (RetBool true w) := by
  have BB := Lib.hid (Below.refl w.heap.size w)
  obtain ⟨k, hk⟩ : ∃ q : Nat, a % 21 = q := ⟨(a % 21).toNat, by omega⟩
  have hk21 : k < 21 := by omega
  have FW := Lib.hid (fun w => (within_any a 21 w ha.1 ha.2 (by omega) (by omega)))
  rw [hk] at FW
  obtain ⟨s, hs⟩ : ∃ s, s = kS.getD k ⟨#[]⟩ := ⟨_, rfl⟩
  obtain ⟨U, hU⟩ : ∃ U, U = kW.getD k ⟨#[]⟩ := ⟨_, rfl⟩
  have hok := okN_all k hk21
  have hs100 := kS_le k hk21
  rw [← hs] at hs100
  rw [← hs, ← hU] at hok
  have HOK := Lib.hid hok
  have HS := Lib.hid hs
  have HU0 := Lib.hid hU
  clear hk ha hok hs hU
  go_enter Tryd.func6, Tryd.ntmps6
  go_wp2_with (go_at_call 13; refine (known_any _).mono ?_; rintro e w1 ⟨rfl, hb⟩; replace BB := Lib.hid (BB.out.trans (hb.mono BB.out.size)); clear hb)
  refine (FW.out _).mono ?_
  rintro e w2 ⟨rfl, rfl⟩
  obtain ⟨sb, hsb⟩ : ∃ sb, w1.heap.size = sb := ⟨_, rfl⟩
  have hsz : (w1.alloc (.cells (tcells kS) 9)).heap.size = sb + 1 := by rw [← hsb]; simp
  have hbS : Below w.heap.size w (w1.alloc (.cells (tcells kS) 9)) := BB.out.alloc BB.out.size _
  have hbW : Below w.heap.size w ((w1.alloc (.cells (tcells kS) 9)).alloc (.cells (tcells kW) 9)) := hbS.alloc hbS.size _
  have h1 := alloc_at w1 (.cells (tcells kS) 9)
  have h2 := alloc_at (w1.alloc (.cells (tcells kS) 9)) (.cells (tcells kW) 9)
  have h3 := (Lib.alloc_old (w1.alloc (.cells (tcells kS) 9)) (.cells (tcells kW) 9) w1.heap.size (by simp)).trans h1
  rw [hsz] at h2
  rw [hsb] at h3
  go_upto_region 6 with fail
  change Code.wp _ _ _ _ ((w1.alloc (.cells (tcells kS) 9)).alloc (.cells (tcells kW) 9))
  obtain ⟨tb, htb⟩ : ∃ tb, sb + 1 = tb := ⟨_, rfl⟩
  simp only [hsb, htb]
  rw [htb] at h2
  have hlt : sb < tb := by omega
  clear h1 hsz hbS BB
  generalize (w1.alloc (.cells (tcells kS) 9)).alloc (.cells (tcells kW) 9) = W at h2 h3 hbW ⊢
  have hcS : W.cell? ⟨sb, k, none⟩ = some (.string s) := by rw [HS.out]; exact tcells_get W sb kS h3 k hk21
  have hcW : W.cell? ⟨tb, k, none⟩ = some (.string U) := by rw [HU0.out]; exact tcells_get W tb kW h2 k hk21
  have hsW : sb < W.heap.size := (Array.getElem?_eq_some_iff.1 h3).1
  have htW : tb < W.heap.size := (Array.getElem?_eq_some_iff.1 h2).1
  have BB := Lib.hid hbW
  have hok := HOK.out
  unfold okN at hok
  obtain ⟨R, hR⟩ : ∃ R, R = rd s.data.toList 200 .next 0 ⟨0, false, []⟩ [] := ⟨_, rfl⟩
  rw [← hR] at hok
  have HR := Lib.hid hR
  clear hR h2 h3 hbW HS HU0 HOK htb hsb
  cases R with
  | none => cases hok
  | some R =>
    cases R with
    | err c p =>
      simp only [Bool.and_eq_true, decide_eq_true_eq, Bool.or_eq_true, beq_iff_eq] at hok
      obtain ⟨⟨hp10, hc⟩, hU⟩ := hok
      have FR := Lib.hid (read_any s W (by omega) 200 _ HR.out.symm)
      have HUL := Lib.hid hU
      have hc3 : c = 3 ∨ c = 4 ∨ c = 5 := by rcases hc with (h | h) | h; exact .inl h; exact .inr (.inl h); exact .inr (.inr h)
      have FE := Lib.hid (fun w => error_any c hc3 w)
      have hc0 : (c != 0) = true := by rcases hc3 with rfl | rfl | rfl <;> rfl
      have FW10 := Lib.hid (fun w => within_any (p : Int) 10 w (by omega) (by omega) (by omega) (by omega))
      have hpp : (p : Int) % 10 = (p : Int) := by omega
      rw [hpp] at FW10
      clear hU hc hc3 hpp HR
      go_wp2_with fail
      refine FR.out.mono ?_
      rintro e w7 ⟨hb7, rfl⟩
      replace BB := Lib.hid (BB.out.trans (hb7.mono BB.out.size))
      have HU := Lib.hid ((hb7.cell (p := ⟨tb, k, none⟩) htW).trans hcW)
      have htw : tb < w7.heap.size := by have := hb7.size; omega
      clear hb7 FR hcS hcW
      obtain ⟨N, hN⟩ : ∃ N, N = errW c := ⟨_, rfl⟩
      have hN5 : N.size ≤ 5 := by rw [hN]; unfold errW; split; decide; split <;> decide
      rw [← hN] at FE
      have HUE : Hid (U = N ++ ⟨#[32]⟩ ++ ⟨#[UInt8.ofNat (48 + p)]⟩) := by
        show _ = _
        have h := HUL.out
        cases U
        apply ByteArray.ext
        apply Array.toList_inj.1
        simp [ByteArray.data_append, hN] at h ⊢
        exact h
      clear HUL hN
      go_upto_region 8 with fail
      refine wp_region_noPanic ?_
      refine wp_region_held_drew (S := Below w7.heap.size w7) (by kernel_rfl) ((Below.refl _ _).drew) (fun hHeld => ?_)
      refine wpAnyH_take (i := 0) (v := Value.slice none 0 0) rfl (by kernel_rfl) (by kernel_rfl) (by kernel_rfl) (fun _ _ _ h => h) (Or.inl ⟨rfl, fun w' hw' => ?_⟩) hHeld ?_
      · go_simp
      simp only [List.getElem_toArray, List.getElem_cons_succ, List.getElem_cons_zero, Act.put, List.setIfInBounds_toArray, List.set_cons_zero, List.set_cons_succ]
      refine wpAnyH_take (i := 1) (v := Value.int .i64 0) rfl (by kernel_rfl) (by kernel_rfl) (by kernel_rfl) (fun _ _ _ h => h) (Or.inl ⟨rfl, fun w' hw' => ?_⟩) hHeld ?_
      · go_simp
      simp only [List.getElem_toArray, List.getElem_cons_succ, List.getElem_cons_zero, Act.put, List.setIfInBounds_toArray, List.set_cons_zero, List.set_cons_succ]
      refine wpAnyH_take (i := 2) (v := Value.bool true) rfl (by kernel_rfl) (by kernel_rfl) (by kernel_rfl) (fun _ _ _ h => h) (Or.inl ⟨rfl, fun w' hw' => ?_⟩) hHeld ?_
      · go_simp
      simp only [List.getElem_toArray, List.getElem_cons_succ, List.getElem_cons_zero, Act.put, List.setIfInBounds_toArray, List.set_cons_zero, List.set_cons_succ]
      refine wpAnyH_take (i := 3) (v := Value.bool true) rfl (by kernel_rfl) (by kernel_rfl) (by kernel_rfl) (fun _ _ _ h => h) (Or.inl ⟨rfl, fun w' hw' => ?_⟩) hHeld ?_
      · go_simp
      simp only [List.getElem_toArray, List.getElem_cons_succ, List.getElem_cons_zero, Act.put, List.setIfInBounds_toArray, List.set_cons_zero, List.set_cons_succ]
      refine wpAnyH_take (i := 4) (v := Value.slice (some ⟨tb, 0, none⟩) 21 21) rfl (by kernel_rfl) (by kernel_rfl) (by kernel_rfl) (fun _ _ _ h => h) (Or.inl ⟨rfl, fun w' hw' => ?_⟩) hHeld ?_
      · go_simp
      simp only [List.getElem_toArray, List.getElem_cons_succ, List.getElem_cons_zero, Act.put, List.setIfInBounds_toArray, List.set_cons_zero, List.set_cons_succ]
      refine wpAnyH_take (i := 5) (v := Value.int .i64 k) rfl (by kernel_rfl) (by kernel_rfl) (by kernel_rfl) (fun _ _ _ h => h) (Or.inl ⟨rfl, fun w' hw' => ?_⟩) hHeld ?_
      · go_simp
      simp only [List.getElem_toArray, List.getElem_cons_succ, List.getElem_cons_zero, Act.put, List.setIfInBounds_toArray, List.set_cons_zero, List.set_cons_succ]
      refine wpAnyH_take (i := 6) (v := Value.pointer (some ⟨tb, k, none⟩)) rfl (by kernel_rfl) (by kernel_rfl) (by kernel_rfl) (fun _ _ _ h => h) (Or.inl ⟨rfl, fun w' hw' => ?_⟩) hHeld ?_
      · go_simp; intro hh; omega
      simp only [List.getElem_toArray, List.getElem_cons_succ, List.getElem_cons_zero, Act.put, List.setIfInBounds_toArray, List.set_cons_zero, List.set_cons_succ]
      refine wpAnyH_take (i := 7) (v := Value.string U) rfl (by kernel_rfl) (by kernel_rfl) (by kernel_rfl) (fun _ _ _ h => h) (Or.inl ⟨rfl, fun w' hw' => ?_⟩) hHeld ?_
      · have q9 := (hw'.cell (p := ⟨tb, k, none⟩) (by show tb < w7.heap.size; omega)).trans HU.out; go_simp
      simp only [List.getElem_toArray, List.getElem_cons_succ, List.getElem_cons_zero, Act.put, List.setIfInBounds_toArray, List.set_cons_zero, List.set_cons_succ]
      refine wpAnyH_take (i := 8) (v := Value.int .i64 c) rfl (by kernel_rfl) (by kernel_rfl) (by kernel_rfl) (fun _ _ _ h => h) (Or.inl ⟨rfl, fun w' hw' => ?_⟩) hHeld ?_
      · go_simp
      simp only [List.getElem_toArray, List.getElem_cons_succ, List.getElem_cons_zero, Act.put, List.setIfInBounds_toArray, List.set_cons_zero, List.set_cons_succ]
      refine wpAnyH_take (i := 11) (v := Value.int .i64 p) rfl (by kernel_rfl) (by kernel_rfl) (by kernel_rfl) (fun _ _ _ h => h) (Or.inl ⟨rfl, fun w' hw' => ?_⟩) hHeld ?_
      · go_simp
      simp only [List.getElem_toArray, List.getElem_cons_succ, List.getElem_cons_zero, Act.put, List.setIfInBounds_toArray, List.set_cons_zero, List.set_cons_succ]
      refine wpAnyH_ready (rs := [9]) (by kernel_rfl) (by simp) ?_
      refine (AllReadyH.cons rfl (fun K hK => ?_) AllReadyH.nil)
      go_simp
      refine (FE.out _).mono ?_
      rintro e w8 ⟨rfl, rfl⟩
      refine hK.out _ _ ((Below.refl w7.heap.size w7).drew) (fun hHeld => ?_)
      clear hK K
      try simp only [List.getElem_toArray, List.getElem_cons_succ, List.getElem_cons_zero, Act.put, List.setIfInBounds_toArray, List.set_cons_zero, List.set_cons_succ]
      refine wpAnyH_take (i := 10) (v := Value.string (N ++ ⟨#[32]⟩)) rfl (by kernel_rfl) (by kernel_rfl) (by kernel_rfl) (fun _ _ _ h => h) (Or.inl ⟨rfl, fun w' hw' => ?_⟩) hHeld ?_
      · go_simp; omega
      simp only [List.getElem_toArray, List.getElem_cons_succ, List.getElem_cons_zero, Act.put, List.setIfInBounds_toArray, List.set_cons_zero, List.set_cons_succ]
      refine wpAnyH_ready (rs := [12]) (by kernel_rfl) (by simp) ?_
      refine (AllReadyH.cons rfl (fun K hK => ?_) AllReadyH.nil)
      go_simp
      refine (FW10.out _).mono ?_
      rintro e w8 ⟨rfl, rfl⟩
      refine hK.out _ _ ((Below.refl w7.heap.size w7).drew) (fun hHeld => ?_)
      clear hK K
      try simp only [List.getElem_toArray, List.getElem_cons_succ, List.getElem_cons_zero, Act.put, List.setIfInBounds_toArray, List.set_cons_zero, List.set_cons_succ]
      refine wpAnyH_take (i := 13) (v := Value.int .i64 ((48 : Int) + (p : Int))) rfl (by kernel_rfl) (by kernel_rfl) (by kernel_rfl) (fun _ _ _ h => h) (Or.inl ⟨rfl, fun w' hw' => ?_⟩) hHeld ?_
      · go_simp; exact IntWalk.i64_in _ ⟨by omega, by omega⟩
      simp only [List.getElem_toArray, List.getElem_cons_succ, List.getElem_cons_zero, Act.put, List.setIfInBounds_toArray, List.set_cons_zero, List.set_cons_succ]
      refine wpAnyH_take (i := 14) (v := Value.int .u8 ((48 : Int) + (p : Int))) rfl (by kernel_rfl) (by kernel_rfl) (by kernel_rfl) (fun _ _ _ h => h) (Or.inl ⟨rfl, fun w' hw' => ?_⟩) hHeld ?_
      · go_simp; exact IntWalk.u8_in _ ⟨by omega, by omega⟩
      simp only [List.getElem_toArray, List.getElem_cons_succ, List.getElem_cons_zero, Act.put, List.setIfInBounds_toArray, List.set_cons_zero, List.set_cons_succ]
      refine wpAnyH_ready (rs := [15]) (by kernel_rfl) (by simp) ?_
      refine (AllReadyH.cons rfl (fun K hK => ?_) AllReadyH.nil)
      go_simp
      refine hK.out _ _ (((Below.refl w7.heap.size w7).alloc (Nat.le_refl _) _).drew) (fun hHeld => ?_)
      clear hK K
      try simp only [List.getElem_toArray, List.getElem_cons_succ, List.getElem_cons_zero, Act.put, List.setIfInBounds_toArray, List.set_cons_zero, List.set_cons_succ]
      have cv := conv_at (w7.alloc (.cells #[.int .u8 ((48 : Int) + (p : Int))] 5)).drew w7.heap.size p hp10 (alloc_at w7 (.cells #[.int .u8 ((48 : Int) + (p : Int))] 5))
      refine wpAnyH_ready (rs := [16]) (by kernel_rfl) (by simp) ?_
      refine (AllReadyH.cons rfl (fun K hK => ?_) AllReadyH.nil)
      go_simp
      refine hK.out _ _ (((Below.refl w7.heap.size w7).alloc (Nat.le_refl _) _).drew) (fun hHeld => ?_)
      clear hK K cv
      try simp only [List.getElem_toArray, List.getElem_cons_succ, List.getElem_cons_zero, Act.put, List.setIfInBounds_toArray, List.set_cons_zero, List.set_cons_succ]
      refine wpAnyH_take (i := 17) (v := Value.string U) rfl (by kernel_rfl) (by kernel_rfl) (by kernel_rfl) (fun _ _ _ h => h) (Or.inl ⟨rfl, fun w' hw' => ?_⟩) hHeld ?_
      · (have e1 := HUE.out; have e2 : (N ++ ⟨#[32]⟩ : ByteArray).size ≤ 6 := by (rw [ByteArray.size_append]; show N.size + 1 ≤ 6; omega)); (have e3 : (⟨#[UInt8.ofNat (48 + p)]⟩ : ByteArray).size = 1 := rfl); rw [e1]; go_simp; omega
      simp only [List.getElem_toArray, List.getElem_cons_succ, List.getElem_cons_zero, Act.put, List.setIfInBounds_toArray, List.set_cons_zero, List.set_cons_succ]
      refine wpAnyH_take (i := 18) (v := Value.bool true) rfl (by kernel_rfl) (by kernel_rfl) (by kernel_rfl) (fun _ _ _ h => h) (Or.inl ⟨rfl, fun w' hw' => ?_⟩) hHeld ?_
      · go_simp
      simp only [List.getElem_toArray, List.getElem_cons_succ, List.getElem_cons_zero, Act.put, List.setIfInBounds_toArray, List.set_cons_zero, List.set_cons_succ]
      refine wpAnyH_take (i := 19) (v := Value.bool true) rfl (by kernel_rfl) (by kernel_rfl) (by kernel_rfl) (fun _ _ _ h => h) (Or.inl ⟨rfl, fun w' hw' => ?_⟩) hHeld ?_
      · go_simp
      simp only [List.getElem_toArray, List.getElem_cons_succ, List.getElem_cons_zero, Act.put, List.setIfInBounds_toArray, List.set_cons_zero, List.set_cons_succ]
      refine wpAnyH_take (i := 20) (v := Value.bool true) rfl (by kernel_rfl) (by kernel_rfl) (by kernel_rfl) (fun _ _ _ h => h) (Or.inl ⟨rfl, fun w' hw' => ?_⟩) hHeld ?_
      · go_simp
      simp only [List.getElem_toArray, List.getElem_cons_succ, List.getElem_cons_zero, Act.put, List.setIfInBounds_toArray, List.set_cons_zero, List.set_cons_succ]
      refine wpAnyH_take (i := 21) (v := Value.int .i64 p) rfl (by kernel_rfl) (by kernel_rfl) (by kernel_rfl) (fun _ _ _ h => h) (Or.inl ⟨rfl, fun w' hw' => ?_⟩) hHeld ?_
      · go_simp
      simp only [List.getElem_toArray, List.getElem_cons_succ, List.getElem_cons_zero, Act.put, List.setIfInBounds_toArray, List.set_cons_zero, List.set_cons_succ]
      refine wpAnyH_take (i := 22) (v := Value.bool true) rfl (by kernel_rfl) (by kernel_rfl) (by kernel_rfl) (fun _ _ _ h => h) (Or.inl ⟨rfl, fun w' hw' => ?_⟩) hHeld ?_
      · go_simp; omega
      simp only [List.getElem_toArray, List.getElem_cons_succ, List.getElem_cons_zero, Act.put, List.setIfInBounds_toArray, List.set_cons_zero, List.set_cons_succ]
      refine wpAnyH_take (i := 23) (v := Value.bool true) rfl (by kernel_rfl) (by kernel_rfl) (by kernel_rfl) (fun _ _ _ h => h) (Or.inl ⟨rfl, fun w' hw' => ?_⟩) hHeld ?_
      · go_simp
      simp only [List.getElem_toArray, List.getElem_cons_succ, List.getElem_cons_zero, Act.put, List.setIfInBounds_toArray, List.set_cons_zero, List.set_cons_succ]
      refine wpAnyH_take (i := 24) (v := Value.bool true) rfl (by kernel_rfl) (by kernel_rfl) (by kernel_rfl) (fun _ _ _ h => h) (Or.inl ⟨rfl, fun w' hw' => ?_⟩) hHeld ?_
      · go_simp
      simp only [List.getElem_toArray, List.getElem_cons_succ, List.getElem_cons_zero, Act.put, List.setIfInBounds_toArray, List.set_cons_zero, List.set_cons_succ]
      refine wpAnyH_done (by kernel_rfl) ?_ _
      refine NoPanic.normal ?_
      have HF := Lib.hid (BB.out.trans (((Below.refl w7.heap.size w7).alloc (Nat.le_refl _) (.cells #[.int .u8 ((48 : Int) + (p : Int))] 5)).drew.mono BB.out.size))
      clear hHeld
      go_wp2_with fail
      go_ret
      exact ⟨rfl, HF.out⟩
    | ok ds =>
      simp only [Bool.and_eq_true, decide_eq_true_eq, beq_iff_eq] at hok
      obtain ⟨⟨⟨hU, hsz⟩, _⟩, htl⟩ := hok
      have FR := Lib.hid (read_any s W (by omega) 200 _ HR.out.symm)
      have HUL := Lib.hid hU
      have hln := length_sizes ds
      clear hU HR
      go_wp2_with fail
      refine FR.out.mono ?_
      rintro e w7 ⟨hb7, v7, rfl, hv7⟩
      replace BB := Lib.hid (BB.out.trans (hb7.mono BB.out.size))
      have HU := Lib.hid ((hb7.cell (p := ⟨tb, k, none⟩) htW).trans hcW)
      have htw : tb < w7.heap.size := by have := hb7.size; omega
      obtain ⟨o7, c7, rfl⟩ := hv7.form
      have HL := Lib.hid hv7
      clear hb7 FR hcS hcW hv7
      go_wp2_with fail
      go_loopw [9, 10] (fun sv iv wr => KtInv ds w7 sv iv wr) (fun _ iv _ => ds.length - (intOf iv).toNat)
      case atStart => exact ⟨0, Nat.zero_le _, rfl, by simp [Dt.txts], Below.refl _ _⟩
      case round =>
        obtain ⟨j, hj, rfl, rfl, hb⟩ := hrel
        have G2 := Lib.hid hb
        have G3 := Lib.hid (HL.out.keeps (Keeps.of_below hb))
        have hsw := hb.size
        clear hb
        obtain ⟨X, hX⟩ : ∃ X : ByteArray, X = ⟨(Dt.txts (ds.take j)).toArray⟩ := ⟨_, rfl⟩
        have hle := txts_le ds j
        have hxs : X.size = (Dt.txts (ds.take j)).length := by rw [hX, Lib.size_eq]
        have hx100 : X.size ≤ 100 := by omega
        rw [← hX]
        have HX := Lib.hid hX
        clear hX
        by_cases hlt : j < ds.length
        · have q1 : decide ((j : Int) < (ds.length : Int)) = true := decide_eq_true (by omega)
          obtain ⟨g, o, k', t', mv', lv', p', rfl, hS, -, hat, e0, e1, e2, e3, e4, o1, o2⟩ := G3.out.get j hlt
          have hsj := size_get ds j hlt
          have htk := txts_take ds j hlt
          have hl3 := txts_le2 ds j hlt
          have HC0 := reftext_any 1000000 (Nat.le_refl _) ds[j] (by omega) (by omega) _ _ wr hat
          obtain ⟨tx, htx⟩ : ∃ tx : ByteArray, tx = ⟨ds[j].txt.toArray⟩ := ⟨_, rfl⟩
          have htl2 : tx.size = ds[j].txt.length := by rw [htx]; simp only [ByteArray.size, List.size_toArray]
          rw [← htx] at HC0
          have HC := Lib.hid HC0
          have hb2 : tx.size ≤ 100 := by omega
          by_cases h0 : j = 0
          · have HN := Lib.hid (fun (w5 : World) (hb4 : Below wr.heap.size wr w5) => show KtInv ds w7 (.string (X ++ tx)) (.int .i64 ((j : Int) + 1)) w5 from
              ⟨j + 1, by omega, by go_num, by rw [HX.out, htx, str_app, htk, if_pos h0]; simp, G2.out.trans (hb4.mono G2.out.size)⟩)
            have q2 : decide ((0 : Int) < (j : Int)) = false := decide_eq_false (by omega)
            have q3 : ¬ 0 < j := by omega
            clear hat hS HC0 htx htl2 hle hl3 hxs htk hsj h0
            go_wp2_with fail
            refine HC.out.mono ?_
            rintro e w5 ⟨rfl, hb4⟩
            have HN4 := Lib.hid (HN.out w5 hb4)
            clear hb4 e0 e1 e2 e3 e4
            go_wp2_with fail
            go_roundw
            case rel => exact HN4.out
            case measure => simp [intOf]; omega
          · obtain ⟨X1, hX1⟩ : ∃ X1 : ByteArray, X1 = X ++ ⟨#[32]⟩ := ⟨_, rfl⟩
            have hX1l : X1.data.toList = Dt.txts (ds.take j) ++ [32] := by rw [hX1, HX.out]; simp [ByteArray.data_append]
            have hX1s : X1.size ≤ 101 := by rw [Lib.size_eq, hX1l, List.length_append]; simp; omega
            have HN := Lib.hid (fun (w5 : World) (hb4 : Below wr.heap.size wr w5) => show KtInv ds w7 (.string (X1 ++ tx)) (.int .i64 ((j : Int) + 1)) w5 from
              ⟨j + 1, by omega, by go_num, by rw [hX1, HX.out, htx, str_app1, str_app, htk, if_neg h0], G2.out.trans (hb4.mono G2.out.size)⟩)
            have q2 : decide ((0 : Int) < (j : Int)) = true := decide_eq_true (by omega)
            have q3 : 0 < j := by omega
            clear hat hS HC0 htx htl2 hle hl3 hxs htk hsj h0 hX1l
            go_wp2_with fail
            rw [← hX1]
            clear hX1
            refine HC.out.mono ?_
            rintro e w5 ⟨rfl, hb4⟩
            have HN4 := Lib.hid (HN.out w5 hb4)
            clear hb4 e0 e1 e2 e3 e4
            go_wp2_with fail
            go_roundw
            case rel => exact HN4.out
            case measure => simp [intOf]; omega
        · obtain rfl : j = ds.length := by omega
          have q1 : decide ((ds.length : Int) < (ds.length : Int)) = false := decide_eq_false (by omega)
          have hXU : U = X := by
            rw [HX.out, List.take_length, ← HUL.out]
          subst hXU
          have hcU : wr.cell? ⟨tb, k, none⟩ = some (.string U) := (G2.out.cell (p := ⟨tb, k, none⟩) htw).trans HU.out
          clear HX HUL hxs hle
          go_wp2_with fail
          go_ret
          exact ⟨rfl, BB.out.trans (G2.out.mono BB.out.size)⟩
end Go.Proofs.YtkjcbaikebdmmaaDoor
