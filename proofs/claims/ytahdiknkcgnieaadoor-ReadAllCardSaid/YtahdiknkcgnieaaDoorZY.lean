/- Same: two rows of data that are one. -/
import Derived.Test.YtahdiknkcgnieaaDoorZW
import Derived.OpenShut
import Derived.Test.YtahdiknkcgnieaaDoorZC
namespace Go.Proofs.YtahdiknkcgnieaaDoor
open Go.RowKit Go.BigM
set_option linter.unusedVariables false
set_option linter.unusedSimpArgs false
def SmInv (n : Nat) (w : World) (iv : Value) (wr : World) : Prop := ∃ j : Nat, j ≤ n ∧ iv = .int .i64 j ∧ Below w.heap.size w wr
set_option maxHeartbeats 8000000 in
set_option maxRecDepth 100000 in
theorem same_rows (l : List Dt) (hl : Dt.sizes l ≤ 1000000) (S T : Nat → Prop) (u v : Value) (w : World) (h1 : LAt S w u l) (h2 : LAt T w v l) : Calls Tryd.prog 18 #[u, v] w (RetBool true w) := by
  obtain ⟨ao, cap, rfl⟩ := h1.form
  obtain ⟨bo, cap', rfl⟩ := h2.form
  have hll := length_sizes l
  have K2 := Lib.hid h1
  have K3 := Lib.hid h2
  clear h1 h2
  have q0 : ((l.length : Int) != (l.length : Int)) = false := by simp
  go_enter Tryd.func18, Tryd.ntmps18
  go_wp2_with fail
  clear q0
  go_loopw [5] (fun iv wr => SmInv l.length w iv wr) (fun iv _ => l.length - (intOf iv).toNat)
  case atStart => exact ⟨0, Nat.zero_le _, rfl, Below.refl _ _⟩
  case round =>
    obtain ⟨j, hj, rfl, hbw⟩ := hrel
    have HBw := Lib.hid hbw
    clear hbw
    by_cases hlt : j < l.length
    · have q1 : decide ((j : Int) < (l.length : Int)) = true := decide_eq_true (by omega)
      obtain ⟨g, o, k5, t5, mv5, lv5, p5, rfl, hS, -, hat, e0, e1, e2, e3, e4, o5, o6⟩ := (K2.out.keeps (Keeps.of_below HBw.out)).get j hlt
      obtain ⟨g2, o2', k6, t6, mv6, lv6, p6, rfl, hS2, -, hat2, f0, f1, f2, f3, f4, o7, o8⟩ := (K3.out.keeps (Keeps.of_below HBw.out)).get j hlt
      have hg : g < wr.heap.size := World.block_lt_of_cell? wr _ e0
      have hg2 : g2 < wr.heap.size := World.block_lt_of_cell? wr _ f0
      have hsj := size_get l j hlt
      have HX := Lib.hid (places_refl 1000000 (by decide) l[j] (by omega) S T _ _ wr.drew (Dt.At.keeps (Keeps.of_below (Below.refl _ _).drew) _ _ hat) (Dt.At.keeps (Keeps.of_below (Below.refl _ _).drew) _ _ hat2))
      have HC : Hid (∀ w', Below wr.heap.size wr w' → (w'.cell? ⟨g, o + j * 5, none⟩ = some (.int .i64 k5) ∧ w'.cell? ⟨g, o + j * 5 + 1, none⟩ = some (.string t5) ∧ w'.cell? ⟨g, o + j * 5 + 2, none⟩ = some mv5 ∧ w'.cell? ⟨g, o + j * 5 + 3, none⟩ = some lv5 ∧ w'.cell? ⟨g, o + j * 5 + 4, none⟩ = some (.int .i64 p5)) ∧ (w'.cell? ⟨g2, o2' + j * 5, none⟩ = some (.int .i64 k6) ∧ w'.cell? ⟨g2, o2' + j * 5 + 1, none⟩ = some (.string t6) ∧ w'.cell? ⟨g2, o2' + j * 5 + 2, none⟩ = some mv6 ∧ w'.cell? ⟨g2, o2' + j * 5 + 3, none⟩ = some lv6 ∧ w'.cell? ⟨g2, o2' + j * 5 + 4, none⟩ = some (.int .i64 p6))) :=
        fun w' hw' => ⟨⟨(hw'.cell hg).trans e0, (hw'.cell hg).trans e1, (hw'.cell hg).trans e2, (hw'.cell hg).trans e3, (hw'.cell hg).trans e4⟩, (hw'.cell hg2).trans f0, (hw'.cell hg2).trans f1, (hw'.cell hg2).trans f2, (hw'.cell hg2).trans f3, (hw'.cell hg2).trans f4⟩
      clear hat hat2 hS hS2 e0 e1 e2 e3 e4 f0 f1 f2 f3 f4
      go_upto_region 6 with fail
      clear q1
      refine wp_region_noPanic ?_
      refine wp_region_held_drew (S := Below wr.heap.size wr) (by kernel_rfl) ((Below.refl _ _).drew) (fun hHeld => ?_)
      refine wpAnyH_take (i := 0) (v := ?v0) rfl (by kernel_rfl) (by kernel_rfl) (by kernel_rfl) (fun _ _ _ h => h) (Or.inl ⟨rfl, fun w' hw' => ?h0⟩) hHeld ?r0
      case h0 =>
        go_simp
        try with_reducible rfl
      simp only [List.getElem_toArray, List.getElem_cons_succ, List.getElem_cons_zero, Act.put, List.setIfInBounds_toArray, List.set_cons_zero, List.set_cons_succ]
      refine wpAnyH_take (i := 1) (v := ?v1) rfl (by kernel_rfl) (by kernel_rfl) (by kernel_rfl) (fun _ _ _ h => h) (Or.inl ⟨rfl, fun w' hw' => ?h1⟩) hHeld ?r1
      case h1 =>
        go_simp
        try with_reducible rfl
      simp only [List.getElem_toArray, List.getElem_cons_succ, List.getElem_cons_zero, Act.put, List.setIfInBounds_toArray, List.set_cons_zero, List.set_cons_succ]
      refine wpAnyH_take (i := 2) (v := Value.pointer (some ⟨g, o + j * 5, none⟩)) rfl (by kernel_rfl) (by kernel_rfl) (by kernel_rfl) (fun _ _ _ h => h) (Or.inl ⟨rfl, fun w' hw' => ?_⟩) hHeld ?_
      · go_simp
      simp only [List.getElem_toArray, List.getElem_cons_succ, List.getElem_cons_zero, Act.put, List.setIfInBounds_toArray, List.set_cons_zero, List.set_cons_succ]
      refine wpAnyH_take (i := 3) (v := Value.agg #[.int .i64 k5, .string t5, mv5, lv5, .int .i64 p5]) rfl (by kernel_rfl) (by kernel_rfl) (by kernel_rfl) (fun _ _ _ h => h) (Or.inl ⟨rfl, fun w' hw' => ?_⟩) hHeld ?_
      · (obtain ⟨⟨d0, d1, d2, d3, d4⟩, _⟩ := HC.out w' hw'; go_simp)
      simp only [List.getElem_toArray, List.getElem_cons_succ, List.getElem_cons_zero, Act.put, List.setIfInBounds_toArray, List.set_cons_zero, List.set_cons_succ]
      refine wpAnyH_take (i := 4) (v := ?v4) rfl (by kernel_rfl) (by kernel_rfl) (by kernel_rfl) (fun _ _ _ h => h) (Or.inl ⟨rfl, fun w' hw' => ?h4⟩) hHeld ?r4
      case h4 =>
        go_simp
        try with_reducible rfl
      simp only [List.getElem_toArray, List.getElem_cons_succ, List.getElem_cons_zero, Act.put, List.setIfInBounds_toArray, List.set_cons_zero, List.set_cons_succ]
      refine wpAnyH_take (i := 5) (v := ?v5) rfl (by kernel_rfl) (by kernel_rfl) (by kernel_rfl) (fun _ _ _ h => h) (Or.inl ⟨rfl, fun w' hw' => ?h5⟩) hHeld ?r5
      case h5 =>
        go_simp
        try with_reducible rfl
      simp only [List.getElem_toArray, List.getElem_cons_succ, List.getElem_cons_zero, Act.put, List.setIfInBounds_toArray, List.set_cons_zero, List.set_cons_succ]
      refine wpAnyH_take (i := 6) (v := Value.pointer (some ⟨g2, o2' + j * 5, none⟩)) rfl (by kernel_rfl) (by kernel_rfl) (by kernel_rfl) (fun _ _ _ h => h) (Or.inl ⟨rfl, fun w' hw' => ?_⟩) hHeld ?_
      · go_simp
      simp only [List.getElem_toArray, List.getElem_cons_succ, List.getElem_cons_zero, Act.put, List.setIfInBounds_toArray, List.set_cons_zero, List.set_cons_succ]
      refine wpAnyH_take (i := 7) (v := Value.agg #[.int .i64 k6, .string t6, mv6, lv6, .int .i64 p6]) rfl (by kernel_rfl) (by kernel_rfl) (by kernel_rfl) (fun _ _ _ h => h) (Or.inl ⟨rfl, fun w' hw' => ?_⟩) hHeld ?_
      · (obtain ⟨_, d0, d1, d2, d3, d4⟩ := HC.out w' hw'; go_simp)
      simp only [List.getElem_toArray, List.getElem_cons_succ, List.getElem_cons_zero, Act.put, List.setIfInBounds_toArray, List.set_cons_zero, List.set_cons_succ]
      refine wpAnyH_ready (rs := [8]) (by kernel_rfl) (by simp) ?_
      refine (AllReadyH.cons rfl (fun K hK => ?_) AllReadyH.nil)
      go_simp
      refine HX.out.mono ?_
      rintro e w7 ⟨rfl, hb⟩
      have hS7 : Below wr.heap.size wr w7 := (Below.refl wr.heap.size wr).drew.trans hb
      have HS7 := Lib.hid hS7
      refine hK.out _ _ hS7 (fun hHeld => ?_)
      clear hb hS7
      clear hK K
      try simp only [List.getElem_toArray, List.getElem_cons_succ, List.getElem_cons_zero, Act.put, List.setIfInBounds_toArray, List.set_cons_zero, List.set_cons_succ]
      refine wpAnyH_take (i := 9) (v := Value.bool false) rfl (by kernel_rfl) (by kernel_rfl) (by kernel_rfl) (fun _ _ _ h => h) (Or.inl ⟨rfl, fun w' hw' => ?_⟩) hHeld ?_
      · go_simp
      simp only [List.getElem_toArray, List.getElem_cons_succ, List.getElem_cons_zero, Act.put, List.setIfInBounds_toArray, List.set_cons_zero, List.set_cons_succ]
      refine wpAnyH_done (by kernel_rfl) ?_ _
      refine NoPanic.normal ?_
      clear hHeld
      have HN := Lib.hid (HBw.out.trans (HS7.out.mono HBw.out.size))
      go_wp2_with fail
      go_roundw
      case rel => exact ⟨j + 1, by omega, by go_num, HN.out⟩
      case measure => simp [intOf]; omega
    · obtain rfl : j = l.length := by omega
      have q1 : decide ((l.length : Int) < (l.length : Int)) = false := decide_eq_false (by omega)
      go_wp2_with fail
      go_ret
      exact ⟨rfl, HBw.out⟩
end Go.Proofs.YtahdiknkcgnieaaDoor
namespace Go.Proofs.YtahdiknkcgnieaaDoor
open Go.RowKit Go.BigM
set_option linter.unusedVariables false
set_option linter.unusedSimpArgs false
def txT : List ByteArray := [⟨#[40]⟩, ⟨#[41]⟩, ⟨#[39]⟩, ⟨#[32]⟩, ⟨#[97]⟩, ⟨#[49, 50]⟩, ⟨#[45, 51]⟩, ⟨#[35, 116]⟩, ⟨#[35, 102]⟩, ⟨#[10]⟩, ⟨#[59, 99]⟩, ⟨#[9]⟩, ⟨#[46, 46, 46]⟩, ⟨#[108, 97, 109, 98, 100, 97, 32]⟩, ⟨#[40, 120, 41]⟩, ⟨#[45]⟩, ⟨#[48, 48, 55]⟩, ⟨#[35]⟩, ⟨#[65]⟩, ⟨#[49, 97]⟩, ⟨#[43]⟩, ⟨#[105, 102, 32]⟩, ⟨#[0]⟩, ⟨#[195, 169]⟩, ⟨#[41]⟩, ⟨#[40]⟩, ⟨#[32]⟩]
def TXA : Array Value := #[.string ⟨#[40]⟩, .string ⟨#[41]⟩, .string ⟨#[39]⟩, .string ⟨#[32]⟩, .string ⟨#[97]⟩, .string ⟨#[49, 50]⟩, .string ⟨#[45, 51]⟩, .string ⟨#[35, 116]⟩, .string ⟨#[35, 102]⟩, .string ⟨#[10]⟩, .string ⟨#[59, 99]⟩, .string ⟨#[9]⟩, .string ⟨#[46, 46, 46]⟩, .string ⟨#[108, 97, 109, 98, 100, 97, 32]⟩, .string ⟨#[40, 120, 41]⟩, .string ⟨#[45]⟩, .string ⟨#[48, 48, 55]⟩, .string ⟨#[35]⟩, .string ⟨#[65]⟩, .string ⟨#[49, 97]⟩, .string ⟨#[43]⟩, .string ⟨#[105, 102, 32]⟩, .string ⟨#[0]⟩, .string ⟨#[195, 169]⟩, .string ⟨#[41]⟩, .string ⟨#[40]⟩, .string ⟨#[32]⟩]
theorem TXA_map : TXA = (txT.map Value.string).toArray := rfl
theorem txA_get (k : Nat) (h : k < 27) : TXA[k]? = some (.string (txT.getD k ⟨#[]⟩)) := by
  have hl : k < txT.length := h
  rw [TXA_map]
  simp [List.getD_eq_getElem?_getD, List.getElem?_eq_getElem hl]
theorem txT_size : ∀ t ∈ txT, t.size ≤ 7 := by decide
theorem txT_get (k : Nat) (h : k < 27) : (txT.getD k ⟨#[]⟩).size ≤ 7 := by
  have hl : k < txT.length := h
  have : txT.getD k ⟨#[]⟩ = txT[k] := by simp [List.getD_eq_getElem?_getD, List.getElem?_eq_getElem hl]
  rw [this]; exact txT_size _ (List.getElem_mem hl)
theorem isrow_get {w : World} {a : Option Addr} {len cap : Nat} {zs : List Int} (h : IsRow .i64 w a len cap zs) (j : Nat) (hj : j < len) : ∃ x z, a = some x ∧ w.cell? (x.add j) = some (.int .i64 z) ∧ I64 z ∧ x.block < w.heap.size := by
  rcases h with ⟨rfl, rfl, _, _⟩ | ⟨x, rfl, h1, h2, h3, h4, h5⟩
  · omega
  · have hjl : j < zs.length := by omega
    have hc := h4 j hjl
    refine ⟨x, zs.getD j 0, rfl, hc, wf_I64 _ (h5 _ ?_), ?_⟩
    · rw [List.getD_eq_getElem?_getD, List.getElem?_eq_getElem hjl]; exact List.getElem_mem hjl
    · have := World.block_lt_of_cell? w _ hc
      rw [add_block] at this; exact this
def RetText (m : Nat) (w : World) (e : Ending) (w' : World) : Prop := ∃ T : ByteArray, e = .returned (.string T) ∧ T.size ≤ m ∧ Below w.heap.size w w'
def TxInv (len : Nat) (w : World) (sv iv : Value) (wr : World) : Prop := ∃ (T : ByteArray) (i : Nat), sv = .string T ∧ iv = .int .i64 (i : Int) ∧ i ≤ len ∧ i ≤ 150 ∧ T.size ≤ i * 7 ∧ Below w.heap.size w wr
set_option maxHeartbeats 8000000 in
set_option maxRecDepth 100000 in
theorem partext_any (ao : Option Addr) (len cap : Nat) (zs : List Int) (w : World) (hN : IsRow .i64 w ao len cap zs) : Calls Tryd.prog 14 #[.slice ao len cap] w (RetText 1050 w) := by
  have HN := Lib.hid hN
  clear hN
  go_enter Tryd.func14, Tryd.ntmps14
  go_wp2_with fail
  go_loopw [3, 4] (fun sv iv wr => TxInv len w sv iv wr) (fun sv iv _ => 150 - (intOf iv).toNat)
  case atStart => exact ⟨⟨#[]⟩, 0, rfl, rfl, Nat.zero_le _, by omega, by decide, Below.refl _ _⟩
  case round =>
    obtain ⟨T, i, rfl, rfl, hi, hi2, hT, hb⟩ := hrel
    have HB := Lib.hid hb
    have HT := Lib.hid hT
    clear hb hT
    by_cases hlt : i < len
    · have q1 : decide ((i : Int) < (len : Int)) = true := decide_eq_true (by omega)
      by_cases h150 : i < 150
      · have q2 : decide ((i : Int) < 150) = true := decide_eq_true (by omega)
        obtain ⟨x, z, rfl, hc, hz, hx⟩ := isrow_get HN.out i hlt
        have FW := Lib.hid (fun w => within_any z 27 w hz.1 hz.2 (by omega) (by omega))
        obtain ⟨k, hk⟩ : ∃ k : Nat, z % 27 = (k : Int) := ⟨(z % 27).toNat, by have := Int.emod_nonneg z (show (27 : Int) ≠ 0 by decide); omega⟩
        have hk27 : k < 27 := by have := Int.emod_lt_of_pos z (show (0 : Int) < 27 by decide); omega
        rw [hk] at FW
        obtain ⟨u, hu⟩ : ∃ u, u = txT.getD k ⟨#[]⟩ := ⟨_, rfl⟩
        have hu7 : u.size ≤ 7 := by rw [hu]; exact txT_get k hk27
        have hxr : x.block < wr.heap.size := by have := HB.out.size; omega
        have HC : Hid (∀ w', Below wr.heap.size wr w' → w'.cell? (x.add i) = some (.int .i64 z)) := fun w' hw' => by
          rw [hw'.cell (by rw [add_block]; exact hxr), HB.out.cell (by rw [add_block]; exact hx)]; exact hc
        have HTB : Hid (∀ (V : World) (n : Nat), n = V.heap.size → (V.alloc (.cells TXA 9)).cell? ⟨n, k, none⟩ = some (.string u)) := fun V n hn => by
          subst hn
          rw [Lib.cell_of_heap (alloc_at V (.cells TXA 9)), hu]; exact txA_get k hk27
        have HUT : Hid ((T ++ u).size ≤ (i + 1) * 7) := by have := HT.out; show _ ≤ _; rw [ByteArray.size_append]; omega
        clear hc hz hk hu
        have hT9 : T.size ≤ 1050 := by have := HT.out; omega
        have hc2 : (wr.alloc (.cells TXA 9)).cell? (x.add i) = some (.int .i64 z) := HC.out _ ((Below.refl _ _).alloc (Nat.le_refl _) _)
        have hc3 := HTB.out wr wr.heap.size rfl
        have HBN : Hid (Below w.heap.size w (wr.alloc (.cells TXA 9))) := HB.out.alloc (by have := HB.out.size; omega) _
        unfold TXA at hc2 hc3
        go_wp2_with fail
        refine (FW.out _).mono ?_
        rintro e w7 ⟨rfl, rfl⟩
        go_wp2_with fail
        go_roundw
        case rel => exact ⟨T ++ u, i + 1, rfl, by go_num, by omega, by omega, HUT.out, HBN.out⟩
        case measure => simp [intOf]; omega
      · have q2 : decide ((i : Int) < 150) = false := decide_eq_false (by omega)
        go_wp2_with fail
        go_ret
        exact ⟨T, rfl, by have := HT.out; omega, HB.out⟩
    · have q1 : decide ((i : Int) < (len : Int)) = false := decide_eq_false (by omega)
      go_wp2_with fail
      go_ret
      exact ⟨T, rfl, by have := HT.out; omega, HB.out⟩
end Go.Proofs.YtahdiknkcgnieaaDoor
namespace Go.Proofs.YtahdiknkcgnieaaDoor
open Go.RowKit Go.BigM
set_option linter.unusedVariables false
set_option linter.unusedSimpArgs false
def wgt (e : En) (r : List En) : Nat := match r with | [] => 1 + Dt.sizes e.ds | f :: r' => 1 + Dt.sizes e.ds + wgt f r'
def Pc.wgt : Pc → Nat | .put d => d.size | _ => 0
theorem sizes_snoc : ∀ (l : List Dt) (d : Dt), Dt.sizes (l ++ [d]) = Dt.sizes l + d.size
  | [], d => by simp [Dt.sizes]
  | x :: l, d => by simp only [List.cons_append, Dt.sizes]; rw [sizes_snoc l d]; omega
theorem wgt_add (e : En) (r : List En) (d : Dt) : wgt (e.add d) r = wgt e r + d.size := by
  cases r <;> simp [wgt, En.add, sizes_snoc] <;> omega
theorem dt_size (e : En) : e.dt.size = 1 + Dt.sizes e.ds := by simp [En.dt, Dt.size]
theorem rd_size (s : List UInt8) : ∀ (n : Nat) (pc : Pc) (p : Nat) (e : En) (r : List En) (ds : List Dt), rd s n pc p e r = some (.ok ds) → pc.fits s p → wgt e r + pc.wgt ≤ 2 * p + 1 → Dt.sizes ds ≤ 2 * s.length := by
  intro n
  induction n with
  | zero => intro pc p e r ds h; cases h
  | succ n ih =>
    intro pc p e r ds h hf hw
    cases pc with
    | next =>
      have hg := gapOf_le false (s.drop p)
      rw [List.length_drop] at hg
      have hf' : p ≤ s.length := hf
      simp only [Pc.wgt] at hw
      unfold rd at h
      split at h
      · exact ih _ _ _ _ _ h (by show _ ≤ _; omega) (by simp only [Pc.wgt]; omega)
      · rename_i b hb
        have hlt : p + gapOf false (s.drop p) < s.length := (List.getElem?_eq_some_iff.1 hb).1
        split at h
        · exact ih _ _ _ _ _ h hlt (by simp only [Pc.wgt]; omega)
        · split at h
          · exact ih _ _ _ _ _ h hlt (by simp only [Pc.wgt]; omega)
          · exact ih _ _ _ _ _ h hlt (by simp only [Pc.wgt]; omega)
    | begin =>
      have hf' : p < s.length := hf
      simp only [Pc.wgt] at hw
      unfold rd at h
      split at h
      · cases h
      · rename_i b hb
        split at h
        · cases h
        · refine ih _ _ _ _ _ h (by show _ ≤ _; omega) ?_
          simp only [Pc.wgt, wgt]
          split <;> simp [Dt.sizes, Dt.size] <;> omega
    | finish =>
      have hf' : p < s.length := hf
      simp only [Pc.wgt] at hw
      unfold rd at h
      cases r with
      | nil => cases h
      | cons f r' =>
        simp only [] at h
        split at h
        · cases h
        · refine ih _ _ _ _ _ h (by show _ ≤ _; omega) ?_
          simp only [Pc.wgt, dt_size]
          simp only [wgt] at hw
          omega
    | token =>
      have hf' : p < s.length := hf
      simp only [Pc.wgt] at hw
      unfold rd at h
      split at h
      · cases h
      · rename_i k t m ht
        have m1 := tokOf_pos ht
        have m2 := tokOf_le ht
        rw [List.length_drop] at m2
        refine ih _ _ _ _ _ h (by show _ ≤ _; omega) ?_
        simp only [Pc.wgt, Dt.size, Dt.sizes]
        omega
    | put d =>
      have hf' : p ≤ s.length := hf
      simp only [Pc.wgt] at hw
      unfold rd at h
      split at h
      · cases r with
        | nil => cases h
        | cons f r' =>
          simp only [] at h
          refine ih _ _ _ _ _ h (by show _ ≤ _; omega) ?_
          simp only [Pc.wgt, dt_size]
          have h2 := wgt_add e (f :: r') d
          simp only [wgt] at hw h2
          omega
      · refine ih _ _ _ _ _ h (by show _ ≤ _; omega) ?_
        simp only [Pc.wgt]
        rw [wgt_add]; omega
    | stop =>
      have hf' : p ≤ s.length := hf
      simp only [Pc.wgt] at hw
      unfold rd at h
      split at h
      · cases h
      · rename_i hr
        injection h with h
        injection h with h
        subst h
        have : r = [] := by cases r with | nil => rfl | cons _ _ => simp at hr
        subst this
        simp only [wgt] at hw
        omega
theorem rd_all (s : List UInt8) : ∃ n R, rd s n .next 0 ⟨0, false, []⟩ [] = some R ∧ ∀ ds, R = .ok ds → Dt.sizes ds ≤ 2 * s.length := by
  obtain ⟨R, hR⟩ := rd_total s (8 * (2 * (s.length - 0) + ([] : List En).length) + Pc.rank .next) .next 0 ⟨0, false, []⟩ [] (Nat.le_refl _) (Nat.zero_le _) rfl
  refine ⟨_, R, hR, fun ds e => ?_⟩
  subst e
  exact rd_size s _ _ _ _ _ _ hR (Nat.zero_le _) (by simp [wgt, Pc.wgt, Dt.sizes])
end Go.Proofs.YtahdiknkcgnieaaDoor
