/- thunkref2.Places: of two that are one, places too. -/
import Derived.Test.YtkjcbaikebdmmaaDoorS1t
import Derived.Deep.RegionHeld3
import Derived.Deep.Cut
namespace Go.Proofs.YtkjcbaikebdmmaaDoor
open Go.RowKit
set_option linter.unusedVariables false
set_option linter.unusedSimpArgs false
mutual
theorem same_refl : ∀ (d : Dt), Dt.same d d = true
  | .mk k t ms l p => by rw [same_mk, sames_refl l]; simp
theorem sames_refl : ∀ (l : List Dt), Dt.sames l l = true
  | [] => by simp [Dt.sames]
  | d :: l => by simp [Dt.sames, same_refl d, sames_refl l]
end
mutual
theorem same_size : ∀ (d e : Dt), Dt.same d e = true → d.size = e.size
  | .mk k t ms l p, .mk k' t' ms' l' p', h => by
    rw [same_mk] at h
    simp only [Bool.and_eq_true] at h
    have := sames_size l l' h.2.2.2
    simp only [Dt.size]; omega
theorem sames_size : ∀ (l m : List Dt), Dt.sames l m = true → Dt.sizes l = Dt.sizes m
  | [], [], _ => rfl
  | d :: l, e :: m, h => by
    simp only [Dt.sames, Bool.and_eq_true] at h
    have h1 := same_size d e h.1
    have h2 := sames_size l m h.2
    simp only [Dt.sizes]; omega
  | [], _ :: _, h => by simp [Dt.sames] at h
  | _ :: _, [], h => by simp [Dt.sames] at h
end


def PlInv (n : Nat) (w : World) (iv : Value) (wr : World) : Prop := ∃ j : Nat, j ≤ n ∧ iv = .int .i64 j ∧ Below w.heap.size w wr
set_option maxHeartbeats 4000000 in
theorem places_refl (n : Nat) : n ≤ 1000000 → ∀ (d : Dt), d.size ≤ n → ∀ (S T : Nat → Prop) (cs ds : Array Value) (w : World), Dt.At S w d cs → Dt.At T w d ds → Calls Tryd.prog 26 #[.agg cs, .agg ds] w (RetBool true w) := by
  induction n with
  | zero => intro _ d hd; cases d; simp [Dt.size] at hd
  | succ n ih0 =>
    intro hn d hd S T cs ds w hat hat2
    have IH := Lib.hid (ih0 (by omega))
    have hdd := hd
    have hata := hat
    have hatb := hat2
    obtain ⟨d0, hd0⟩ : ∃ d0, d0 = d := ⟨_, rfl⟩
    rw [← hd0] at hata hatb hdd
    obtain ⟨k, t, ms, l, p⟩ := d
    rw [At_mk] at hat hat2
    obtain ⟨mv, lv, rfl, hm, hl⟩ := hat
    obtain ⟨mv', lv', rfl, hm', hl'⟩ := hat2
    have hsz : Dt.sizes l ≤ n := by simp only [Dt.size] at hd; omega
    have hll := length_sizes l
    have o1 := hm.one
    have o2 := hl.one
    have o3 := hm'.one
    have o4 := hl'.one
    have HB := Lib.hid (((Below.refl w.heap.size w).alloc (Nat.le_refl _) (.cells #[.int .i64 k, .string t, mv, lv, .int .i64 p] 40)).alloc (by simp) (.cells #[.int .i64 k, .string t, mv', lv', .int .i64 p] 40))
    have B0 := Keeps.of_below (S := S) HB.out
    have B1 := Keeps.of_below (S := T) HB.out
    have L1 := Lib.hid (hl.keeps B0)
    have L2 := Lib.hid (hl'.keeps B1)
    have FS := Lib.hid (refsame_any 1000000 (by decide) d0 d0 (by omega) S T _ _ _ (Dt.At.keeps B0 _ _ hata) (Dt.At.keeps B1 _ _ hatb))
    rw [same_refl] at FS
    obtain ⟨ao, cap, rfl⟩ := hl.form
    obtain ⟨bo, cap', rfl⟩ := hl'.form
    have A0 : Hid (((w.alloc (.cells #[.int .i64 k, .string t, mv, .slice ao l.length cap, .int .i64 p] 40)).alloc (.cells #[.int .i64 k, .string t, mv', .slice bo l.length cap', .int .i64 p] 40)).heap[w.heap.size]? = some (.cells #[.int .i64 k, .string t, mv, .slice ao l.length cap, .int .i64 p] 40 (0, 0))) := (Lib.alloc_old _ _ _ (by simp)).trans (alloc_at w _)
    have A1 : Hid (((w.alloc (.cells #[.int .i64 k, .string t, mv, .slice ao l.length cap, .int .i64 p] 40)).alloc (.cells #[.int .i64 k, .string t, mv', .slice bo l.length cap', .int .i64 p] 40)).heap[w.heap.size + 1]? = some (.cells #[.int .i64 k, .string t, mv', .slice bo l.length cap', .int .i64 p] 40 (0, 0))) := second_at w _ _
    have ez : ((w.alloc (.cells #[.int .i64 k, .string t, mv, .slice ao l.length cap, .int .i64 p] 40)).alloc (.cells #[.int .i64 k, .string t, mv', .slice bo l.length cap', .int .i64 p] 40)).heap.size = w.heap.size + 1 + 1 := by simp
    have EZ := Lib.hid ez
    clear ih0 hm hl hm' hl' hd B0 B1 hata hatb hd0 hdd ez
    go_enter Tryd.func26, Tryd.ntmps26
    go_wp2_with (first | (refine wpList_load_row rfl 40 _ rfl (w.heap.size + 1) rfl 40 #[.int .i64 k, .string t, mv', .slice bo l.length cap', .int .i64 p] (0, 0) _ A1.out Tryd.underlying40 rfl info40 ?_) | (refine wpList_load_row rfl 40 _ rfl w.heap.size rfl 40 #[.int .i64 k, .string t, mv, .slice ao l.length cap, .int .i64 p] (0, 0) _ A0.out Tryd.underlying40 rfl info40 ?_))
    refine FS.out.mono ?_
    rintro e w1 ⟨rfl, hb⟩
    have K1 := Lib.hid (HB.out.trans (hb.mono HB.out.size))
    have K2 := Lib.hid (L1.out.keeps (Keeps.of_below hb))
    have K3 := Lib.hid (L2.out.keeps (Keeps.of_below hb))
    have hsw := hb.size
    rw [EZ.out] at hsw
    have cA : w1.cell? ⟨w.heap.size, 3, none⟩ = some (.slice ao l.length cap) := by rw [Lib.cell_of_heap (Below.row hb A0.out)]; rfl
    have cB : w1.cell? ⟨w.heap.size + 1, 3, none⟩ = some (.slice bo l.length cap') := by rw [Lib.cell_of_heap (Below.row hb A1.out)]; rfl
    have pA : w1.cell? ⟨w.heap.size, 4, none⟩ = some (.int .i64 p) := by rw [Lib.cell_of_heap (Below.row hb A0.out)]; rfl
    have pB : w1.cell? ⟨w.heap.size + 1, 4, none⟩ = some (.int .i64 p) := by rw [Lib.cell_of_heap (Below.row hb A1.out)]; rfl
    have CA := Lib.hid cA
    have CB := Lib.hid cB
    have qp : (p != p) = false := by simp
    clear hb FS L1 L2 HB cA cB A0 A1
    go_wp2_with fail
    clear pA pB qp
    go_loopw [5] (fun iv wr => PlInv l.length w1 iv wr) (fun iv _ => l.length - (intOf iv).toNat)
    case atStart => exact ⟨0, Nat.zero_le _, rfl, Below.refl _ _⟩
    case round =>
      obtain ⟨j, hj, rfl, hbw⟩ := hrel
      have HBw := Lib.hid hbw
      have hsr := hbw.size
      have cA := (hbw.cell (p := ⟨w.heap.size, 3, none⟩) (by show w.heap.size < _; omega)).trans CA.out
      have cB := (hbw.cell (p := ⟨w.heap.size + 1, 3, none⟩) (by show w.heap.size + 1 < _; omega)).trans CB.out
      clear hbw
      by_cases hlt : j < l.length
      · have q1 : decide ((j : Int) < (l.length : Int)) = true := decide_eq_true (by omega)
        obtain ⟨g, o, k5, t5, mv5, lv5, p5, rfl, hS, -, hat, e0, e1, e2, e3, e4, o5, o6⟩ := (K2.out.keeps (Keeps.of_below HBw.out)).get j hlt
        obtain ⟨g2, o2', k6, t6, mv6, lv6, p6, rfl, hS2, -, hat2, f0, f1, f2, f3, f4, o7, o8⟩ := (K3.out.keeps (Keeps.of_below HBw.out)).get j hlt
        have hg : g < wr.heap.size := World.block_lt_of_cell? wr _ e0
        have hg2 : g2 < wr.heap.size := World.block_lt_of_cell? wr _ f0
        have hsj := size_get l j hlt
        have HX' := IH.out l[j] (by omega) S T _ _ wr.drew (Dt.At.keeps (Keeps.of_below (Below.refl _ _).drew) _ _ hat) (Dt.At.keeps (Keeps.of_below (Below.refl _ _).drew) _ _ hat2)
        have HX := Lib.hid HX'
        have E0 := Lib.hid e0
        have E1 := Lib.hid e1
        have E2 := Lib.hid e2
        have E3 := Lib.hid e3
        have E4 := Lib.hid e4
        have F0 := Lib.hid f0
        have F1 := Lib.hid f1
        have F2 := Lib.hid f2
        have F3 := Lib.hid f3
        have F4 := Lib.hid f4
        clear HX' hat hat2 hS hS2 e0 e1 e2 e3 e4 f0 f1 f2 f3 f4 IH
        go_upto_region 6 with fail
        have DA := Lib.hid cA
        have DB := Lib.hid cB
        clear cA cB q1
        refine wp_region_noPanic ?_
        refine wp_region_held_drew (S := Below wr.heap.size wr) (by kernel_rfl) ((Below.refl _ _).drew) (fun hHeld => ?_)
        refine wpAnyH_take (i := 0) (v := Value.pointer (some ⟨w.heap.size, 3, none⟩)) rfl (by kernel_rfl) (by kernel_rfl) (by kernel_rfl) (fun _ _ _ h => h) (Or.inl ⟨rfl, fun w' hw' => ?_⟩) hHeld ?_
        · go_simp
        simp only [List.getElem_toArray, List.getElem_cons_succ, List.getElem_cons_zero, Act.put, List.setIfInBounds_toArray, List.set_cons_zero, List.set_cons_succ]
        refine wpAnyH_take (i := 1) (v := Value.slice (some ⟨g, o, none⟩) l.length cap) rfl (by kernel_rfl) (by kernel_rfl) (by kernel_rfl) (fun _ _ _ h => h) (Or.inl ⟨rfl, fun w' hw' => ?_⟩) hHeld ?_
        · have c := (hw'.cell (p := ⟨w.heap.size, 3, none⟩) (by show w.heap.size < _; omega)).trans DA.out; go_simp
        simp only [List.getElem_toArray, List.getElem_cons_succ, List.getElem_cons_zero, Act.put, List.setIfInBounds_toArray, List.set_cons_zero, List.set_cons_succ]
        refine wpAnyH_take (i := 2) (v := Value.int .i64 j) rfl (by kernel_rfl) (by kernel_rfl) (by kernel_rfl) (fun _ _ _ h => h) (Or.inl ⟨rfl, fun w' hw' => ?_⟩) hHeld ?_
        · go_simp
        simp only [List.getElem_toArray, List.getElem_cons_succ, List.getElem_cons_zero, Act.put, List.setIfInBounds_toArray, List.set_cons_zero, List.set_cons_succ]
        refine wpAnyH_take (i := 3) (v := Value.pointer (some ⟨g, o + j * 5, none⟩)) rfl (by kernel_rfl) (by kernel_rfl) (by kernel_rfl) (fun _ _ _ h => h) (Or.inl ⟨rfl, fun w' hw' => ?_⟩) hHeld ?_
        · go_simp
        simp only [List.getElem_toArray, List.getElem_cons_succ, List.getElem_cons_zero, Act.put, List.setIfInBounds_toArray, List.set_cons_zero, List.set_cons_succ]
        refine wpAnyH_take (i := 4) (v := Value.agg #[.int .i64 k5, .string t5, mv5, lv5, .int .i64 p5]) rfl (by kernel_rfl) (by kernel_rfl) (by kernel_rfl) (fun _ _ _ h => h) (Or.inl ⟨rfl, fun w' hw' => ?_⟩) hHeld ?_
        · have qE0 := (hw'.cell (p := ⟨g, o + j * 5, none⟩) (by show g < wr.heap.size; omega)).trans E0.out; have qE1 := (hw'.cell (p := ⟨g, o + j * 5 + 1, none⟩) (by show g < wr.heap.size; omega)).trans E1.out; have qE2 := (hw'.cell (p := ⟨g, o + j * 5 + 2, none⟩) (by show g < wr.heap.size; omega)).trans E2.out; have qE3 := (hw'.cell (p := ⟨g, o + j * 5 + 3, none⟩) (by show g < wr.heap.size; omega)).trans E3.out; have qE4 := (hw'.cell (p := ⟨g, o + j * 5 + 4, none⟩) (by show g < wr.heap.size; omega)).trans E4.out; go_simp
        simp only [List.getElem_toArray, List.getElem_cons_succ, List.getElem_cons_zero, Act.put, List.setIfInBounds_toArray, List.set_cons_zero, List.set_cons_succ]
        refine wpAnyH_take (i := 5) (v := Value.pointer (some ⟨w.heap.size + 1, 3, none⟩)) rfl (by kernel_rfl) (by kernel_rfl) (by kernel_rfl) (fun _ _ _ h => h) (Or.inl ⟨rfl, fun w' hw' => ?_⟩) hHeld ?_
        · go_simp
        simp only [List.getElem_toArray, List.getElem_cons_succ, List.getElem_cons_zero, Act.put, List.setIfInBounds_toArray, List.set_cons_zero, List.set_cons_succ]
        refine wpAnyH_take (i := 6) (v := Value.slice (some ⟨g2, o2', none⟩) l.length cap') rfl (by kernel_rfl) (by kernel_rfl) (by kernel_rfl) (fun _ _ _ h => h) (Or.inl ⟨rfl, fun w' hw' => ?_⟩) hHeld ?_
        · have c := (hw'.cell (p := ⟨w.heap.size + 1, 3, none⟩) (by show w.heap.size + 1 < _; omega)).trans DB.out; go_simp
        simp only [List.getElem_toArray, List.getElem_cons_succ, List.getElem_cons_zero, Act.put, List.setIfInBounds_toArray, List.set_cons_zero, List.set_cons_succ]
        refine wpAnyH_take (i := 7) (v := Value.int .i64 j) rfl (by kernel_rfl) (by kernel_rfl) (by kernel_rfl) (fun _ _ _ h => h) (Or.inl ⟨rfl, fun w' hw' => ?_⟩) hHeld ?_
        · go_simp
        simp only [List.getElem_toArray, List.getElem_cons_succ, List.getElem_cons_zero, Act.put, List.setIfInBounds_toArray, List.set_cons_zero, List.set_cons_succ]
        refine wpAnyH_take (i := 8) (v := Value.pointer (some ⟨g2, o2' + j * 5, none⟩)) rfl (by kernel_rfl) (by kernel_rfl) (by kernel_rfl) (fun _ _ _ h => h) (Or.inl ⟨rfl, fun w' hw' => ?_⟩) hHeld ?_
        · go_simp
        simp only [List.getElem_toArray, List.getElem_cons_succ, List.getElem_cons_zero, Act.put, List.setIfInBounds_toArray, List.set_cons_zero, List.set_cons_succ]
        refine wpAnyH_take (i := 9) (v := Value.agg #[.int .i64 k6, .string t6, mv6, lv6, .int .i64 p6]) rfl (by kernel_rfl) (by kernel_rfl) (by kernel_rfl) (fun _ _ _ h => h) (Or.inl ⟨rfl, fun w' hw' => ?_⟩) hHeld ?_
        · have qF0 := (hw'.cell (p := ⟨g2, o2' + j * 5, none⟩) (by show g2 < wr.heap.size; omega)).trans F0.out; have qF1 := (hw'.cell (p := ⟨g2, o2' + j * 5 + 1, none⟩) (by show g2 < wr.heap.size; omega)).trans F1.out; have qF2 := (hw'.cell (p := ⟨g2, o2' + j * 5 + 2, none⟩) (by show g2 < wr.heap.size; omega)).trans F2.out; have qF3 := (hw'.cell (p := ⟨g2, o2' + j * 5 + 3, none⟩) (by show g2 < wr.heap.size; omega)).trans F3.out; have qF4 := (hw'.cell (p := ⟨g2, o2' + j * 5 + 4, none⟩) (by show g2 < wr.heap.size; omega)).trans F4.out; go_simp
        simp only [List.getElem_toArray, List.getElem_cons_succ, List.getElem_cons_zero, Act.put, List.setIfInBounds_toArray, List.set_cons_zero, List.set_cons_succ]
        refine wpAnyH_ready (rs := [10]) (by kernel_rfl) (by simp) ?_
        refine (AllReadyH.cons rfl (fun K hK => ?_) AllReadyH.nil)
        go_simp
        refine HX.out.mono ?_
        rintro e w7 ⟨rfl, hb⟩
        have hS7 : Below wr.heap.size wr w7 := (Below.refl wr.heap.size wr).drew.trans hb
        have HS7 := Lib.hid hS7
        refine hK.out _ _ hS7 (fun hHeld => ?_)
        clear hK K hb hS7
        try simp only [List.getElem_toArray, List.getElem_cons_succ, List.getElem_cons_zero, Act.put, List.setIfInBounds_toArray, List.set_cons_zero, List.set_cons_succ]
        refine wpAnyH_take (i := 11) (v := Value.bool false) rfl (by kernel_rfl) (by kernel_rfl) (by kernel_rfl) (fun _ _ _ h => h) (Or.inl ⟨rfl, fun w' hw' => ?_⟩) hHeld ?_
        · go_simp
        simp only [List.getElem_toArray, List.getElem_cons_succ, List.getElem_cons_zero, Act.put, List.setIfInBounds_toArray, List.set_cons_zero, List.set_cons_succ]
        refine wpAnyH_done (by kernel_rfl) ?_ _
        refine NoPanic.normal ?_
        clear hHeld
        have HN := Lib.hid (HBw.out.trans (HS7.out.mono HBw.out.size))
        go_wp2_with fail
        go_roundw
        case rel => exact ⟨j + 1, by omega, by go_num, HN.out⟩
        case measure => simp [intOf]; omega
      · obtain rfl : j = l.length := by omega
        have q1 : decide ((l.length : Int) < (l.length : Int)) = false := decide_eq_false (by omega)
        go_wp2_with fail
        go_ret
        exact ⟨rfl, K1.out.trans (HBw.out.mono K1.out.size)⟩
end Go.Proofs.YtkjcbaikebdmmaaDoor
