/- The walk of DatumText. -/
import Derived.Test.YtlkpddokmibkiaaX0
import Derived.Deep.Cut
namespace Go.Proofs.Ytlkpddokmibkiaa
open Go.RowKit
set_option linter.unusedVariables false
set_option linter.unusedSimpArgs false

/-- What a part's text and size are, wherever it stands as it stood. -/
theorem part_text {S : Nat → Prop} {d : Dt} {cs : Array Value} {wr : World} (h : Dt.At S wr d cs) (hs : d.size ≤ 1000000) (ht : d.txt.length ≤ 1000000) (tx : ByteArray) (htx : tx = ⟨d.txt.toArray⟩) :
    ∀ w, Below wr.heap.size wr w → Calls Try.prog 17 #[.agg cs] w (RetStr tx w) := by
  intro w hb
  refine (text_any d S cs w (Dt.At.keeps (Keeps.of_below hb) _ _ h) (by omega) (by omega)).mono ?_
  rintro e w' ⟨h1, h2⟩
  exact ⟨by rw [h1, htx], h2⟩
theorem part_size {S : Nat → Prop} {d : Dt} {cs : Array Value} {wr : World} (h : Dt.At S wr d cs) (hs : d.size ≤ 1000000) :
    ∀ w, Below wr.heap.size wr w → Calls Try.prog 22 #[.agg cs] w (RetInt (d.size : Int) w) := by
  intro w hb
  exact size_any d.size (by omega) d (Nat.le_refl _) S cs w (Dt.At.keeps (Keeps.of_below hb) _ _ h)
theorem wrap_small (m s : Nat) (h : m ≤ 61) (k : s ≤ 60) : IntKind.i64.wrap ((m : Int) + (s : Int)) = (m : Int) + (s : Int) := by
  exact IntWalk.i64_in _ ⟨by omega, by omega⟩
/-- The law's loop. -/
def TInv (ds : List Dt) (w : World) (sv nv iv : Value) (wr : World) : Prop :=
  ∃ j m : Nat, j ≤ ds.length ∧ iv = .int .i64 j ∧ sv = .string ⟨(40 :: Dt.txts (ds.take j)).toArray⟩ ∧ nv = .int .i64 m ∧ m = 1 + Dt.sizes (ds.take j) ∧ Below w.heap.size w wr

set_option maxHeartbeats 4000000 in
theorem text_loop (ds : List Dt) (w1 wr : World) (j m : Nat) (hlt : j < ds.length) (hm : m = 1 + Dt.sizes (ds.take j)) (tx : ByteArray) (htx : tx = ⟨ds[j].txt.toArray⟩) (X : ByteArray)
    (hX : X = ⟨(40 :: (Dt.txts (ds.take j) ++ (if j = 0 then [] else [32]))).toArray⟩) (sz : Nat) (hz : ds[j].size = sz) :
    ∀ w', Below w1.heap.size w1 w' → TInv ds w1 (.string (X ++ tx)) (.int .i64 ((m : Int) + (sz : Int))) (.int .i64 ((j : Int) + 1)) w' := by
  intro w' hb
  refine ⟨j + 1, m + sz, by omega, by go_num, ?_, by go_num, ?_, hb⟩
  · rw [hX, htx, str_app, txts_take ds j hlt]
    simp
  · rw [sizes_take ds j hlt, hz]; omega

set_option maxHeartbeats 4000000 in
theorem text_walk (l : List Rw) (ao : Option Addr) (ac : Nat) (w : World) (hR : RsAt w ao l) :
    Calls Try.prog 6 #[.slice ao l.length ac] w fun e w' => e = .returned (.bool true) ∧ Below w.heap.size w w' := by
  have HR := Lib.hid hR
  clear hR
  go_enter Try.func6, Try.ntmps6
  go_wp2_with fail
  refine (known_any _).mono ?_
  rintro e w0 ⟨rfl, hb0⟩
  have B0 := Lib.hid hb0
  have R0 := Lib.hid (HR.out.below hb0)
  clear hb0
  go_wp2_with fail
  refine (few_any l ao ac w0 R0.out).mono ?_
  rintro e w' ⟨r, rfl, hfew, rfl⟩
  cases r with
  | false =>
    clear hfew
    go_wp2
    go_ret
    exact ⟨rfl, B0.out⟩
  | true =>
    have hc := hfew rfl
    clear hfew
    have HC := Lib.hid hc
    clear hc
    go_wp2_with fail
    refine (all_any l (by have := HC.out; omega) ao ac w0 R0.out).mono ?_
    rintro e w1 ⟨dv, rfl, hown, hb1⟩
    obtain ⟨ds, hds⟩ : ∃ ds, ds = Rw.makes l := ⟨_, rfl⟩
    have zs : Dt.sizes ds ≤ 60 := by have := makes_size l; have := HC.out; rw [hds]; omega
    have zt : (Dt.txts ds).length ≤ 2460 := by have h1 := makes_txt l; have := HC.out; have h2 := txts_txtr (Rw.makes l); rw [hds]; omega
    rw [← hds] at hown
    have hat := hown.at
    have B1 := Lib.hid (B0.out.trans (hb1.mono B0.out.size))
    have H1 := Lib.hid hat
    have hln := length_sizes ds
    clear hown hb1 hds hat
    obtain ⟨dao, cap, rfl⟩ := H1.out.form
    go_wp2_with fail
    go_loopw [3, 4, 6] (fun sv nv iv wr => TInv ds w1 sv nv iv wr) (fun _ _ iv _ => ds.length - (intOf iv).toNat)
    case atStart => exact ⟨0, 1, Nat.zero_le _, rfl, rfl, rfl, rfl, Below.refl _ _⟩
    case round =>
      obtain ⟨j, m, hj, rfl, rfl, rfl, hm, hbw⟩ := hrel
      have HB := Lib.hid hbw
      have HM := Lib.hid hm
      have hmb : m ≤ 61 := by have := sizes_take_le ds j; omega
      clear hbw hm
      have L1 := Lib.hid (H1.out.keeps (Keeps.of_below HB.out))
      by_cases hlt : j < ds.length
      · have q1 : decide ((j : Int) < (ds.length : Int)) = true := decide_eq_true (by omega)
        obtain ⟨g, o, k5, t5, mv5, lv5, p5, rfl, hS, -, hat, e0, e1, e2, e3, e4, o1, o2⟩ := L1.out.get j hlt
        have hg : g < wr.heap.size := World.block_lt_of_cell? wr _ e0
        have hsz := size_get ds j hlt
        have htl := txts_le2 ds j hlt
        obtain ⟨tx, htx⟩ : ∃ tx : ByteArray, tx = ⟨ds[j].txt.toArray⟩ := ⟨_, rfl⟩
        obtain ⟨sz, hz⟩ : ∃ sz, ds[j].size = sz := ⟨_, rfl⟩
        have HT := Lib.hid (part_text hat (by omega) (by omega) tx htx)
        have HZ' := part_size hat (by omega)
        rw [hz] at HZ' hsz
        have HZ := Lib.hid HZ'
        have E0 := Lib.hid e0
        have E1 := Lib.hid e1
        have E2 := Lib.hid e2
        have E3 := Lib.hid e3
        have E4 := Lib.hid e4
        have hzb : sz ≤ 60 := by omega
        clear HZ' e0 e1 e2 e3 e4 hat hS hsz
        by_cases hj0 : j = 0
        · obtain ⟨X, hX⟩ : ∃ X : ByteArray, X = ⟨(40 :: Dt.txts (ds.take j)).toArray⟩ := ⟨_, rfl⟩
          have HN := Lib.hid (text_loop ds w1 wr j m hlt HM.out tx htx X (by rw [hX, if_pos hj0]; simp) sz hz)
          have hxs : X.size + tx.size ≤ 5000 := by rw [hX, htx]; simp only [ByteArray.size, List.size_toArray, List.length_cons]; omega
          rw [← hX]
          have q2 : decide ((0 : Int) < (j : Int)) = false := decide_eq_false (by omega)
          have q3 : ¬ (0 < j) := by omega
          clear htx hz hX hj0 htl
          go_upto_region 12 with fail
          refine wp_region_noPanic ?_
          refine wp_region_held_drew (S := Below wr.heap.size wr) (by kernel_rfl) ((Below.refl _ _).drew) (fun hHeld => ?_)
          refine wpAnyH_take (i := 0) (v := Value.string X) rfl (by kernel_rfl) (by kernel_rfl) (by kernel_rfl) (fun _ _ _ h => h) (Or.inl ⟨rfl, fun w' hw' => ?_⟩) hHeld ?_
          · go_simp
          simp only [List.getElem_toArray, List.getElem_cons_succ, List.getElem_cons_zero, Act.put, List.setIfInBounds_toArray, List.set_cons_zero, List.set_cons_succ]
          refine wpAnyH_take (i := 1) (v := Value.slice (some ⟨g, o, none⟩) ds.length cap) rfl (by kernel_rfl) (by kernel_rfl) (by kernel_rfl) (fun _ _ _ h => h) (Or.inl ⟨rfl, fun w' hw' => ?_⟩) hHeld ?_
          · go_simp
          simp only [List.getElem_toArray, List.getElem_cons_succ, List.getElem_cons_zero, Act.put, List.setIfInBounds_toArray, List.set_cons_zero, List.set_cons_succ]
          refine wpAnyH_take (i := 2) (v := Value.int .i64 j) rfl (by kernel_rfl) (by kernel_rfl) (by kernel_rfl) (fun _ _ _ h => h) (Or.inl ⟨rfl, fun w' hw' => ?_⟩) hHeld ?_
          · go_simp
          simp only [List.getElem_toArray, List.getElem_cons_succ, List.getElem_cons_zero, Act.put, List.setIfInBounds_toArray, List.set_cons_zero, List.set_cons_succ]
          refine wpAnyH_take (i := 3) (v := Value.pointer (some ⟨g, o + j * 5, none⟩)) rfl (by kernel_rfl) (by kernel_rfl) (by kernel_rfl) (fun _ _ _ h => h) (Or.inl ⟨rfl, fun w' hw' => ?_⟩) hHeld ?_
          · go_simp
          simp only [List.getElem_toArray, List.getElem_cons_succ, List.getElem_cons_zero, Act.put, List.setIfInBounds_toArray, List.set_cons_zero, List.set_cons_succ]
          refine wpAnyH_take (i := 4) (v := Value.agg #[.int .i64 k5, .string t5, mv5, lv5, .int .i64 p5]) rfl (by kernel_rfl) (by kernel_rfl) (by kernel_rfl) (fun _ _ _ h => h) (Or.inl ⟨rfl, fun w' hw' => ?_⟩) hHeld ?_
          · have q0 := (hw'.cell (p := ⟨g, o + j * 5, none⟩) (by show g < wr.heap.size; omega)).trans E0.out; have q1 := (hw'.cell (p := ⟨g, o + j * 5 + 1, none⟩) (by show g < wr.heap.size; omega)).trans E1.out; have q2 := (hw'.cell (p := ⟨g, o + j * 5 + 2, none⟩) (by show g < wr.heap.size; omega)).trans E2.out; have q3 := (hw'.cell (p := ⟨g, o + j * 5 + 3, none⟩) (by show g < wr.heap.size; omega)).trans E3.out; have q4 := (hw'.cell (p := ⟨g, o + j * 5 + 4, none⟩) (by show g < wr.heap.size; omega)).trans E4.out; go_simp
          simp only [List.getElem_toArray, List.getElem_cons_succ, List.getElem_cons_zero, Act.put, List.setIfInBounds_toArray, List.set_cons_zero, List.set_cons_succ]
          refine wpAnyH_take (i := 7) (v := Value.int .i64 m) rfl (by kernel_rfl) (by kernel_rfl) (by kernel_rfl) (fun _ _ _ h => h) (Or.inl ⟨rfl, fun w' hw' => ?_⟩) hHeld ?_
          · go_simp
          simp only [List.getElem_toArray, List.getElem_cons_succ, List.getElem_cons_zero, Act.put, List.setIfInBounds_toArray, List.set_cons_zero, List.set_cons_succ]
          refine wpAnyH_take (i := 8) (v := Value.slice (some ⟨g, o, none⟩) ds.length cap) rfl (by kernel_rfl) (by kernel_rfl) (by kernel_rfl) (fun _ _ _ h => h) (Or.inl ⟨rfl, fun w' hw' => ?_⟩) hHeld ?_
          · go_simp
          simp only [List.getElem_toArray, List.getElem_cons_succ, List.getElem_cons_zero, Act.put, List.setIfInBounds_toArray, List.set_cons_zero, List.set_cons_succ]
          refine wpAnyH_take (i := 9) (v := Value.int .i64 j) rfl (by kernel_rfl) (by kernel_rfl) (by kernel_rfl) (fun _ _ _ h => h) (Or.inl ⟨rfl, fun w' hw' => ?_⟩) hHeld ?_
          · go_simp
          simp only [List.getElem_toArray, List.getElem_cons_succ, List.getElem_cons_zero, Act.put, List.setIfInBounds_toArray, List.set_cons_zero, List.set_cons_succ]
          refine wpAnyH_take (i := 10) (v := Value.pointer (some ⟨g, o + j * 5, none⟩)) rfl (by kernel_rfl) (by kernel_rfl) (by kernel_rfl) (fun _ _ _ h => h) (Or.inl ⟨rfl, fun w' hw' => ?_⟩) hHeld ?_
          · go_simp
          simp only [List.getElem_toArray, List.getElem_cons_succ, List.getElem_cons_zero, Act.put, List.setIfInBounds_toArray, List.set_cons_zero, List.set_cons_succ]
          refine wpAnyH_take (i := 11) (v := Value.agg #[.int .i64 k5, .string t5, mv5, lv5, .int .i64 p5]) rfl (by kernel_rfl) (by kernel_rfl) (by kernel_rfl) (fun _ _ _ h => h) (Or.inl ⟨rfl, fun w' hw' => ?_⟩) hHeld ?_
          · have q0 := (hw'.cell (p := ⟨g, o + j * 5, none⟩) (by show g < wr.heap.size; omega)).trans E0.out; have q1 := (hw'.cell (p := ⟨g, o + j * 5 + 1, none⟩) (by show g < wr.heap.size; omega)).trans E1.out; have q2 := (hw'.cell (p := ⟨g, o + j * 5 + 2, none⟩) (by show g < wr.heap.size; omega)).trans E2.out; have q3 := (hw'.cell (p := ⟨g, o + j * 5 + 3, none⟩) (by show g < wr.heap.size; omega)).trans E3.out; have q4 := (hw'.cell (p := ⟨g, o + j * 5 + 4, none⟩) (by show g < wr.heap.size; omega)).trans E4.out; go_simp
          simp only [List.getElem_toArray, List.getElem_cons_succ, List.getElem_cons_zero, Act.put, List.setIfInBounds_toArray, List.set_cons_zero, List.set_cons_succ]
          refine wpAnyH_ready (rs := [5]) (by kernel_rfl) (by simp) ?_
          refine (AllReadyH.cons rfl (fun K hK => ?_) AllReadyH.nil)
          go_simp
          refine (HT.out _ (Below.mono hHeld (Nat.le_refl _))).mono ?_
          rintro e w2 ⟨rfl, hb⟩
          have hS := Below.trans hHeld (hb.mono hHeld.size)
          refine hK.out _ _ hS (fun hHeld => ?_)
          clear hK K hb hS
          try simp only [List.getElem_toArray, List.getElem_cons_succ, List.getElem_cons_zero, Act.put, List.setIfInBounds_toArray, List.set_cons_zero, List.set_cons_succ]
          refine wpAnyH_take (i := 6) (v := Value.string (X ++ tx)) rfl (by kernel_rfl) (by kernel_rfl) (by kernel_rfl) (fun _ _ _ h => h) (Or.inl ⟨rfl, fun w' hw' => ?_⟩) hHeld ?_
          · go_simp; omega
          simp only [List.getElem_toArray, List.getElem_cons_succ, List.getElem_cons_zero, Act.put, List.setIfInBounds_toArray, List.set_cons_zero, List.set_cons_succ]
          refine wpAnyH_ready (rs := [12]) (by kernel_rfl) (by simp) ?_
          refine (AllReadyH.cons rfl (fun K hK => ?_) AllReadyH.nil)
          go_simp
          refine (HZ.out _ (Below.mono hHeld (Nat.le_refl _))).mono ?_
          rintro e w3 ⟨rfl, hb⟩
          have hS := Below.trans hHeld (hb.mono hHeld.size)
          refine hK.out _ _ hS (fun hHeld => ?_)
          clear hK K hb hS
          try simp only [List.getElem_toArray, List.getElem_cons_succ, List.getElem_cons_zero, Act.put, List.setIfInBounds_toArray, List.set_cons_zero, List.set_cons_succ]
          refine wpAnyH_take (i := 13) (v := Value.int .i64 ((m : Int) + (sz : Int))) rfl (by kernel_rfl) (by kernel_rfl) (by kernel_rfl) (fun _ _ _ h => h) (Or.inl ⟨rfl, fun w' hw' => ?_⟩) hHeld ?_
          · go_simp; exact wrap_small m sz hmb hzb
          simp only [List.getElem_toArray, List.getElem_cons_succ, List.getElem_cons_zero, Act.put, List.setIfInBounds_toArray, List.set_cons_zero, List.set_cons_succ]
          refine wpAnyH_take (i := 14) (v := Value.string (X ++ tx)) rfl (by kernel_rfl) (by kernel_rfl) (by kernel_rfl) (fun _ _ _ h => h) (Or.inl ⟨rfl, fun w' hw' => ?_⟩) hHeld ?_
          · go_simp
          simp only [List.getElem_toArray, List.getElem_cons_succ, List.getElem_cons_zero, Act.put, List.setIfInBounds_toArray, List.set_cons_zero, List.set_cons_succ]
          refine wpAnyH_take (i := 15) (v := Value.int .i64 ((m : Int) + (sz : Int))) rfl (by kernel_rfl) (by kernel_rfl) (by kernel_rfl) (fun _ _ _ h => h) (Or.inl ⟨rfl, fun w' hw' => ?_⟩) hHeld ?_
          · go_simp
          simp only [List.getElem_toArray, List.getElem_cons_succ, List.getElem_cons_zero, Act.put, List.setIfInBounds_toArray, List.set_cons_zero, List.set_cons_succ]
          refine wpAnyH_done (by kernel_rfl) ?_ _
          refine NoPanic.normal ?_
          have HS := Lib.hid hHeld
          clear hHeld
          go_wp2_with fail
          go_roundw
          case rel => exact HN.out _ (HB.out.trans (Below.mono HS.out HB.out.size))
          case measure => simp [intOf]; omega
        · obtain ⟨Y, hY⟩ : ∃ Y : ByteArray, Y = ⟨(40 :: Dt.txts (ds.take j)).toArray⟩ := ⟨_, rfl⟩
          obtain ⟨X, hX⟩ : ∃ X : ByteArray, Y ++ ⟨#[32]⟩ = X := ⟨_, rfl⟩
          have HN := Lib.hid (text_loop ds w1 wr j m hlt HM.out tx htx X (by rw [← hX, hY, str_app1, if_neg hj0]; simp) sz hz)
          have hys : Y.size ≤ 5000 := by rw [hY]; simp only [ByteArray.size, List.size_toArray, List.length_cons]; omega
          have hxs : X.size + tx.size ≤ 10000 := by rw [← hX, hY, htx]; simp only [ByteArray.size, ByteArray.data_append, Array.size_append, List.size_toArray, List.length_cons, List.length_nil]; omega
          rw [← hY]
          have q2 : decide ((0 : Int) < (j : Int)) = true := decide_eq_true (by omega)
          have q3 : 0 < j := by omega
          clear htx hz hY hj0 htl
          go_upto_region 12 with fail
          clear hX
          refine wp_region_noPanic ?_
          refine wp_region_held_drew (S := Below wr.heap.size wr) (by kernel_rfl) ((Below.refl _ _).drew) (fun hHeld => ?_)
          refine wpAnyH_take (i := 0) (v := Value.string X) rfl (by kernel_rfl) (by kernel_rfl) (by kernel_rfl) (fun _ _ _ h => h) (Or.inl ⟨rfl, fun w' hw' => ?_⟩) hHeld ?_
          · go_simp
          simp only [List.getElem_toArray, List.getElem_cons_succ, List.getElem_cons_zero, Act.put, List.setIfInBounds_toArray, List.set_cons_zero, List.set_cons_succ]
          refine wpAnyH_take (i := 1) (v := Value.slice (some ⟨g, o, none⟩) ds.length cap) rfl (by kernel_rfl) (by kernel_rfl) (by kernel_rfl) (fun _ _ _ h => h) (Or.inl ⟨rfl, fun w' hw' => ?_⟩) hHeld ?_
          · go_simp
          simp only [List.getElem_toArray, List.getElem_cons_succ, List.getElem_cons_zero, Act.put, List.setIfInBounds_toArray, List.set_cons_zero, List.set_cons_succ]
          refine wpAnyH_take (i := 2) (v := Value.int .i64 j) rfl (by kernel_rfl) (by kernel_rfl) (by kernel_rfl) (fun _ _ _ h => h) (Or.inl ⟨rfl, fun w' hw' => ?_⟩) hHeld ?_
          · go_simp
          simp only [List.getElem_toArray, List.getElem_cons_succ, List.getElem_cons_zero, Act.put, List.setIfInBounds_toArray, List.set_cons_zero, List.set_cons_succ]
          refine wpAnyH_take (i := 3) (v := Value.pointer (some ⟨g, o + j * 5, none⟩)) rfl (by kernel_rfl) (by kernel_rfl) (by kernel_rfl) (fun _ _ _ h => h) (Or.inl ⟨rfl, fun w' hw' => ?_⟩) hHeld ?_
          · go_simp
          simp only [List.getElem_toArray, List.getElem_cons_succ, List.getElem_cons_zero, Act.put, List.setIfInBounds_toArray, List.set_cons_zero, List.set_cons_succ]
          refine wpAnyH_take (i := 4) (v := Value.agg #[.int .i64 k5, .string t5, mv5, lv5, .int .i64 p5]) rfl (by kernel_rfl) (by kernel_rfl) (by kernel_rfl) (fun _ _ _ h => h) (Or.inl ⟨rfl, fun w' hw' => ?_⟩) hHeld ?_
          · have q0 := (hw'.cell (p := ⟨g, o + j * 5, none⟩) (by show g < wr.heap.size; omega)).trans E0.out; have q1 := (hw'.cell (p := ⟨g, o + j * 5 + 1, none⟩) (by show g < wr.heap.size; omega)).trans E1.out; have q2 := (hw'.cell (p := ⟨g, o + j * 5 + 2, none⟩) (by show g < wr.heap.size; omega)).trans E2.out; have q3 := (hw'.cell (p := ⟨g, o + j * 5 + 3, none⟩) (by show g < wr.heap.size; omega)).trans E3.out; have q4 := (hw'.cell (p := ⟨g, o + j * 5 + 4, none⟩) (by show g < wr.heap.size; omega)).trans E4.out; go_simp
          simp only [List.getElem_toArray, List.getElem_cons_succ, List.getElem_cons_zero, Act.put, List.setIfInBounds_toArray, List.set_cons_zero, List.set_cons_succ]
          refine wpAnyH_take (i := 7) (v := Value.int .i64 m) rfl (by kernel_rfl) (by kernel_rfl) (by kernel_rfl) (fun _ _ _ h => h) (Or.inl ⟨rfl, fun w' hw' => ?_⟩) hHeld ?_
          · go_simp
          simp only [List.getElem_toArray, List.getElem_cons_succ, List.getElem_cons_zero, Act.put, List.setIfInBounds_toArray, List.set_cons_zero, List.set_cons_succ]
          refine wpAnyH_take (i := 8) (v := Value.slice (some ⟨g, o, none⟩) ds.length cap) rfl (by kernel_rfl) (by kernel_rfl) (by kernel_rfl) (fun _ _ _ h => h) (Or.inl ⟨rfl, fun w' hw' => ?_⟩) hHeld ?_
          · go_simp
          simp only [List.getElem_toArray, List.getElem_cons_succ, List.getElem_cons_zero, Act.put, List.setIfInBounds_toArray, List.set_cons_zero, List.set_cons_succ]
          refine wpAnyH_take (i := 9) (v := Value.int .i64 j) rfl (by kernel_rfl) (by kernel_rfl) (by kernel_rfl) (fun _ _ _ h => h) (Or.inl ⟨rfl, fun w' hw' => ?_⟩) hHeld ?_
          · go_simp
          simp only [List.getElem_toArray, List.getElem_cons_succ, List.getElem_cons_zero, Act.put, List.setIfInBounds_toArray, List.set_cons_zero, List.set_cons_succ]
          refine wpAnyH_take (i := 10) (v := Value.pointer (some ⟨g, o + j * 5, none⟩)) rfl (by kernel_rfl) (by kernel_rfl) (by kernel_rfl) (fun _ _ _ h => h) (Or.inl ⟨rfl, fun w' hw' => ?_⟩) hHeld ?_
          · go_simp
          simp only [List.getElem_toArray, List.getElem_cons_succ, List.getElem_cons_zero, Act.put, List.setIfInBounds_toArray, List.set_cons_zero, List.set_cons_succ]
          refine wpAnyH_take (i := 11) (v := Value.agg #[.int .i64 k5, .string t5, mv5, lv5, .int .i64 p5]) rfl (by kernel_rfl) (by kernel_rfl) (by kernel_rfl) (fun _ _ _ h => h) (Or.inl ⟨rfl, fun w' hw' => ?_⟩) hHeld ?_
          · have q0 := (hw'.cell (p := ⟨g, o + j * 5, none⟩) (by show g < wr.heap.size; omega)).trans E0.out; have q1 := (hw'.cell (p := ⟨g, o + j * 5 + 1, none⟩) (by show g < wr.heap.size; omega)).trans E1.out; have q2 := (hw'.cell (p := ⟨g, o + j * 5 + 2, none⟩) (by show g < wr.heap.size; omega)).trans E2.out; have q3 := (hw'.cell (p := ⟨g, o + j * 5 + 3, none⟩) (by show g < wr.heap.size; omega)).trans E3.out; have q4 := (hw'.cell (p := ⟨g, o + j * 5 + 4, none⟩) (by show g < wr.heap.size; omega)).trans E4.out; go_simp
          simp only [List.getElem_toArray, List.getElem_cons_succ, List.getElem_cons_zero, Act.put, List.setIfInBounds_toArray, List.set_cons_zero, List.set_cons_succ]
          refine wpAnyH_ready (rs := [5]) (by kernel_rfl) (by simp) ?_
          refine (AllReadyH.cons rfl (fun K hK => ?_) AllReadyH.nil)
          go_simp
          refine (HT.out _ (Below.mono hHeld (Nat.le_refl _))).mono ?_
          rintro e w2 ⟨rfl, hb⟩
          have hS := Below.trans hHeld (hb.mono hHeld.size)
          refine hK.out _ _ hS (fun hHeld => ?_)
          clear hK K hb hS
          try simp only [List.getElem_toArray, List.getElem_cons_succ, List.getElem_cons_zero, Act.put, List.setIfInBounds_toArray, List.set_cons_zero, List.set_cons_succ]
          refine wpAnyH_take (i := 6) (v := Value.string (X ++ tx)) rfl (by kernel_rfl) (by kernel_rfl) (by kernel_rfl) (fun _ _ _ h => h) (Or.inl ⟨rfl, fun w' hw' => ?_⟩) hHeld ?_
          · go_simp; omega
          simp only [List.getElem_toArray, List.getElem_cons_succ, List.getElem_cons_zero, Act.put, List.setIfInBounds_toArray, List.set_cons_zero, List.set_cons_succ]
          refine wpAnyH_ready (rs := [12]) (by kernel_rfl) (by simp) ?_
          refine (AllReadyH.cons rfl (fun K hK => ?_) AllReadyH.nil)
          go_simp
          refine (HZ.out _ (Below.mono hHeld (Nat.le_refl _))).mono ?_
          rintro e w3 ⟨rfl, hb⟩
          have hS := Below.trans hHeld (hb.mono hHeld.size)
          refine hK.out _ _ hS (fun hHeld => ?_)
          clear hK K hb hS
          try simp only [List.getElem_toArray, List.getElem_cons_succ, List.getElem_cons_zero, Act.put, List.setIfInBounds_toArray, List.set_cons_zero, List.set_cons_succ]
          refine wpAnyH_take (i := 13) (v := Value.int .i64 ((m : Int) + (sz : Int))) rfl (by kernel_rfl) (by kernel_rfl) (by kernel_rfl) (fun _ _ _ h => h) (Or.inl ⟨rfl, fun w' hw' => ?_⟩) hHeld ?_
          · go_simp; exact wrap_small m sz hmb hzb
          simp only [List.getElem_toArray, List.getElem_cons_succ, List.getElem_cons_zero, Act.put, List.setIfInBounds_toArray, List.set_cons_zero, List.set_cons_succ]
          refine wpAnyH_take (i := 14) (v := Value.string (X ++ tx)) rfl (by kernel_rfl) (by kernel_rfl) (by kernel_rfl) (fun _ _ _ h => h) (Or.inl ⟨rfl, fun w' hw' => ?_⟩) hHeld ?_
          · go_simp
          simp only [List.getElem_toArray, List.getElem_cons_succ, List.getElem_cons_zero, Act.put, List.setIfInBounds_toArray, List.set_cons_zero, List.set_cons_succ]
          refine wpAnyH_take (i := 15) (v := Value.int .i64 ((m : Int) + (sz : Int))) rfl (by kernel_rfl) (by kernel_rfl) (by kernel_rfl) (fun _ _ _ h => h) (Or.inl ⟨rfl, fun w' hw' => ?_⟩) hHeld ?_
          · go_simp
          simp only [List.getElem_toArray, List.getElem_cons_succ, List.getElem_cons_zero, Act.put, List.setIfInBounds_toArray, List.set_cons_zero, List.set_cons_succ]
          refine wpAnyH_done (by kernel_rfl) ?_ _
          refine NoPanic.normal ?_
          have HS := Lib.hid hHeld
          clear hHeld
          go_wp2_with fail
          go_roundw
          case rel => exact HN.out _ (HB.out.trans (Below.mono HS.out HB.out.size))
          case measure => simp [intOf]; omega
      · obtain rfl : j = ds.length := by omega
        have q1 : decide ((ds.length : Int) < (ds.length : Int)) = false := decide_eq_false (by omega)
        obtain ⟨Y, hY⟩ : ∃ Y : ByteArray, Y = ⟨(40 :: Dt.txts (ds.take ds.length)).toArray⟩ := ⟨_, rfl⟩
        obtain ⟨Z, hZ⟩ : ∃ Z : ByteArray, Y ++ ⟨#[41]⟩ = Z := ⟨_, rfl⟩
        have hdt : Dt.At (fun g => w0.heap.size ≤ g) wr (.mk 4 ⟨#[]⟩ [] ds 0) #[.int .i64 4, .string ⟨#[]⟩, .slice none 0 0, .slice dao ds.length cap, .int .i64 0] := by
          rw [At_mk]; exact ⟨_, _, rfl, .inl ⟨rfl, rfl⟩, L1.out⟩
        have htt : Dt.txt (.mk 4 ⟨#[]⟩ [] ds 0) = 40 :: (Dt.txts ds ++ [41]) := by simp [Dt.txt]
        have hsz : Dt.size (.mk 4 ⟨#[]⟩ [] ds 0) = 1 + Dt.sizes ds := by simp only [Dt.size]
        have HT := Lib.hid (part_text hdt (by omega) (by rw [htt]; simp; omega) Z (by rw [← hZ, hY, str_app1, List.take_length, htt]; simp))
        have hm1 : Dt.size (.mk 4 ⟨#[]⟩ [] ds 0) = m := by have := HM.out; rw [List.take_length] at this; omega
        have HZ' := part_size hdt (by omega)
        rw [hm1] at HZ'
        have HZ := Lib.hid HZ'
        have hys : Y.size ≤ 5000 := by rw [hY, List.take_length]; simp only [ByteArray.size, List.size_toArray, List.length_cons]; omega
        rw [← hY]
        have GC := Lib.hid (alloc_at wr (.cells #[.int .i64 4, .string ⟨#[]⟩, .slice none 0 0, .slice dao ds.length cap, .int .i64 0] 28))
        have GB := Lib.hid ((Below.refl wr.heap.size wr).alloc (Nat.le_refl _) (.cells #[.int .i64 4, .string ⟨#[]⟩, .slice none 0 0, .slice dao ds.length cap, .int .i64 0] 28))
        have FB := Lib.hid (B1.out.trans (HB.out.mono B1.out.size))
        clear hlt hdt htt hsz hm1 HZ' hY
        go_upto_region 14 with fail
        generalize wr.alloc (.cells #[.int .i64 4, .string ⟨#[]⟩, .slice none 0 0, .slice dao ds.length cap, .int .i64 0] 28) = W at GC GB ⊢
        go_wp2_with (first
          | (refine wpList_load_wanted (by rfl) 28 _ rfl wr.heap.size rfl 28 #[.int .i64 4, .string ⟨#[]⟩, .slice none 0 0, .slice dao ds.length cap, .int .i64 0] (0, 0) _ GC.out Try.underlying28 rfl info28 ?_)
          | ((first | (go_at_call 17; (with_reducible refine (HT.out _ GB.out).mono ?_)) | (go_at_call 22; (with_reducible refine (HZ.out _ GB.out).mono ?_))); rintro e w5 ⟨rfl, hb⟩; replace GB := Lib.hid (GB.out.trans (hb.mono GB.out.size)); replace GC := Lib.hid (Below.row hb GC.out); clear hb))
        go_ret
        exact ⟨rfl, FB.out.trans (GB.out.mono FB.out.size)⟩
end Go.Proofs.Ytlkpddokmibkiaa
