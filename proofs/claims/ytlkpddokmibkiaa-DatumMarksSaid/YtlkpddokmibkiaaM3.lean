/- The walk of DatumMarks. -/
import Derived.Test.YtlkpddokmibkiaaM1
import Derived.Test.YtlkpddokmibkiaaR7
import Derived.Test.YtlkpddokmibkiaaY0
import Derived.Deep.RegionHeld3
import Derived.Deep.Cut
import Derived.BigQuiet
namespace Go.Proofs.Ytlkpddokmibkiaa
open Go.RowKit
set_option linter.unusedVariables false
set_option linter.unusedSimpArgs false

/-- The cells of a symbol 'a' with these marks. -/
theorem sym_at {S : Nat → Prop} {w : World} {mv : Value} {ms : List Int} (h : MAt S w mv ms) : Dt.At S w (.mk 3 ⟨#[97]⟩ ms [] 0) #[.int .i64 3, .string ⟨#[97]⟩, mv, .slice none 0 0, .int .i64 0] := by
  rw [At_mk]; exact ⟨_, _, rfl, h, .inl ⟨rfl, rfl⟩⟩
/-- What stands behind an append: the row; nothing else has changed from the block on where it began. -/
theorem app_below {B : Nat} {w w' w2 : World} {v : Value} {ms ys : List Int} (hb : Below B w w') (hn : Nums B w' v ys) (hB : B ≤ w'.heap.size) (hg : w'.grownBy w2 v.ownBlock) : Below B w w2 :=
  hb.grown hg hB (fun k hk => (World.ownsRow.lt hn k hk).1)

theorem five_src (w : World) : Src (w.alloc (.cells #[.int .i64 5] 3)) (some ⟨w.heap.size, 0, none⟩) 1 1 [5] := by
  refine ⟨rfl, .inr ⟨_, rfl, fun j hj => ?_⟩⟩
  have h0 : j = 0 := by simpa using hj
  subst h0
  have e : (⟨w.heap.size, 0, none⟩ : Addr).add 0 = ⟨w.heap.size, 0, none⟩ := rfl
  rw [e, Lib.cell_of_heap (alloc_at w (.cells #[.int .i64 5] 3))]; rfl

theorem ne_snoc (ms : List Int) : (ms == ms ++ [5]) = false := by
  rw [beq_eq_false_iff_ne]; intro e
  have := congrArg List.length e
  simp at this

theorem MAt.belowB {S : Nat → Prop} {B : Nat} {w w' : World} {mv : Value} {ms : List Int} (h : MAt S w mv ms) (hb : Below B w w') (hS : ∀ g, S g → g < B) : MAt S w' mv ms :=
  h.keeps (fun g c T fz hs hg _ => ⟨fz, by rw [hb.block g (hS g hs)]; exact hg⟩)
theorem Nums.row {B : Nat} {w : World} {v : Value} {ms : List Int} (h : Nums B w v ms) (hm : 0 < ms.length) : ∃ g cap cur, v = .slice (some ⟨g, 0, .none⟩) ms.length cap ∧ B ≤ g ∧ w.heap[g]? = some (.cells cur 3 (0, 0)) ∧ (∀ j (h : j < ms.length), cur[j]? = some (.int .i64 ms[j])) := by
  rcases h.2 with ⟨rfl, hz⟩ | ⟨g, cap, cur, rfl, hbg, hg, hnc, hcm, hcs, htake⟩
  · omega
  · refine ⟨g, cap, cur, rfl, hbg, hg, fun j hj => ?_⟩
    have h1 : (cur.toList.take (ms.length * 1))[j]? = some (.int .i64 ms[j]) := by rw [htake, List.getElem?_map, List.getElem?_eq_getElem hj]; rfl
    rw [List.getElem?_take, if_pos (by omega)] at h1
    simpa using h1
theorem swapped {w : World} {g cap i k : Nat} {cur : Array Value} {ms : List Int} (hg : w.heap[g]? = some (.cells cur 3 (0, 0))) (hc : ∀ j (h : j < ms.length), cur[j]? = some (.int .i64 ms[j])) (hik : i + 1 = k) (hk : k < ms.length) (hm : ms.length ≤ 30) (a b : Int) :
    MAt (fun x => x = g) ((w.setCell ⟨g, i, none⟩ (.int .i64 b)).setCell ⟨g, k, none⟩ (.int .i64 a)) (.slice (some ⟨g, 0, none⟩) ms.length cap) ((ms.set i b).set k a) := by
  have h2 := heap_setCell_same _ g k _ 3 (.int .i64 a) (heap_setCell_same w g i cur 3 (.int .i64 b) hg)
  refine .inr ⟨g, 0, cap, _, (0, 0), by simp, rfl, h2, fun j hj => ?_, by simp; omega⟩
  simp only [List.length_set] at hj
  have hcj := hc j hj
  have hjs : j < cur.size := (Array.getElem?_eq_some_iff.1 hcj).1
  rw [Nat.zero_add, List.getElem_set, Array.getElem?_setIfInBounds]
  by_cases e1 : k = j
  · subst e1; simp [hjs]
  · rw [if_neg e1, if_neg e1, List.getElem_set, Array.getElem?_setIfInBounds]
    by_cases e2 : i = j
    · subst e2; simp [hjs]
    · rw [if_neg e2, if_neg e2]; exact hcj
theorem swap_eq (ms : List Int) (i k : Nat) (hik : i + 1 = k) (hk : k < ms.length) : (ms == (ms.set i ms[k]).set k (ms[i]'(by omega))) = !(ms[k] != (ms[i]'(by omega))) := by
  subst hik
  by_cases h : ms[i + 1] = ms[i]'(by omega)
  · have e : (ms.set i ms[i + 1]).set (i + 1) (ms[i]'(by omega)) = ms := by
      rw [h, ← h]
      conv => lhs; rw [show ms.set i ms[i + 1] = ms by rw [h]; exact List.set_getElem_self _]
      exact List.set_getElem_self _
    rw [e]; simp [h]
  · have h1 : (ms[i + 1] != ms[i]'(by omega)) = true := by rw [bne_iff_ne]; exact h
    rw [h1, Bool.not_true, beq_eq_false_iff_ne]
    intro e
    have h2 : ms[i]? = ((ms.set i ms[i + 1]).set (i + 1) (ms[i]'(by omega)))[i]? := congrArg (fun l : List Int => l[i]?) e
    rw [List.getElem?_set_ne (by omega), List.getElem?_set_self (by omega), List.getElem?_eq_getElem (by omega)] at h2
    injection h2 with h2
    exact h h2.symm

set_option maxHeartbeats 3000000 in
theorem marks_walk (a0 : Option Addr) (len0 cap0 : Nat) (z0 : List Int) (a1 : Int) (w : World) (w0 : IsRow .i64 w a0 len0 cap0 z0) (h1 : I64 a1) :
    Calls Try.prog 10 #[.slice a0 len0 cap0, .int .i64 a1] w fun e w' => e = .returned (.bool true) ∧ Below w.heap.size w w' := by
  obtain ⟨ms, hms⟩ : ∃ ms, Src w a0 len0 cap0 ms := ⟨_, Src.of_row w0⟩
  have hml : ms.length = len0 := hms.1
  have R0 := Lib.hid hms
  have I1 := Lib.hid h1
  have BB := Lib.hid (Below.refl w.heap.size w)
  clear h1 w0 hms
  by_cases hlen : 30 < len0
  · have q0 : decide ((30 : Int) < (len0 : Int)) = true := decide_eq_true (by omega)
    go_enter Try.func10, Try.ntmps10
    go_wp2_with (go_at_call 11; refine (known_any _).mono ?_; rintro e w1 ⟨rfl, hb⟩; replace BB := Lib.hid (BB.out.trans (hb.mono BB.out.size)); clear hb)
    go_ret
    exact ⟨rfl, BB.out⟩
  · have q0 : decide ((30 : Int) < (len0 : Int)) = false := decide_eq_false (by omega)
    have hs : ms.length ≤ 30 := by omega
    have HL := Lib.hid hml
    have hs2 : len0 ≤ 30 := by omega
    clear hlen hml
    go_enter Try.func10, Try.ntmps10
    go_wp2_with fail
    refine (known_any _).mono ?_
    rintro e w1 ⟨rfl, hb⟩
    have B1 := Lib.hid hb
    have S1 := Lib.hid (R0.out.below hb)
    clear hb BB R0
    go_upto_region 6 with (refine wpList_wanted (by rfl) fun K hK => ?_; refine wp_appI (Operand.tmp 15) (Operand.tmp 16) rfl w1.heap.size _ [] ms rfl (Nums.none w1 w1.heap.size (Nat.le_refl _)) a0 len0 cap0 rfl (S1.out.below ((Below.refl _ _).alloc (Nat.le_refl _) _)) (by simp; omega) (by simp) ?_; intro v2 w2 hown2 hg2; have NX := Lib.hid hown2; have b2 : Below w1.heap.size w1 w2 := app_below (ms := ms) ((Below.refl _ _).alloc (Nat.le_refl _) _) (Nums.none w1 w1.heap.size (Nat.le_refl _)) (by simp) hg2; have B2 := Lib.hid b2; obtain ⟨xo, xn, xc, rfl⟩ := own_form hown2; clear hown2 hg2 b2; refine hK _ _ ?_; clear hK K)
    rw [List.nil_append] at NX
    have XC := Lib.hid (alloc_at w2 (.cells #[.int .i64 3, .string ⟨#[97]⟩, .slice xo xn xc, .slice none 0 0, .int .i64 0] 28))
    have XA := Lib.hid ((NX.out.at (by omega)).keeps (Keeps.of_below ((Below.refl w2.heap.size w2).alloc (Nat.le_refl _) (.cells #[.int .i64 3, .string ⟨#[97]⟩, .slice xo xn xc, .slice none 0 0, .int .i64 0] 28))))
    have B3 := Lib.hid (B2.out.alloc B2.out.size (.cells #[.int .i64 3, .string ⟨#[97]⟩, .slice xo xn xc, .slice none 0 0, .int .i64 0] 28))
    have hx3 : w2.heap.size < (w2.alloc (.cells #[.int .i64 3, .string ⟨#[97]⟩, .slice xo xn xc, .slice none 0 0, .int .i64 0] 28)).heap.size := by simp
    generalize w2.alloc (.cells #[.int .i64 3, .string ⟨#[97]⟩, .slice xo xn xc, .slice none 0 0, .int .i64 0] 28) = W3 at XC XA B3 hx3 ⊢
    replace XA := Lib.hid XA.out.bound
    have S3 := Lib.hid (S1.out.below B3.out)
    clear NX B2
    go_upto_region 7 with (first
      | (refine wpList_wanted (by rfl) fun K hK => ?_; refine wp_appI (Operand.tmp 19) (Operand.tmp 20) rfl W3.heap.size _ [] ms rfl (Nums.none W3 W3.heap.size (Nat.le_refl _)) a0 len0 cap0 rfl (S3.out.below ((Below.refl _ _).alloc (Nat.le_refl _) _)) (by simp; omega) (by simp) ?_; intro v4 w4 hown4 hg4; have b4 : Below W3.heap.size W3 w4 := app_below (ms := ms) ((Below.refl _ _).alloc (Nat.le_refl _) _) (Nums.none W3 W3.heap.size (Nat.le_refl _)) (by simp) hg4; have B4 := Lib.hid b4; obtain ⟨yo, yn, yc, rfl⟩ := own_form hown4; have NY := Lib.hid hown4; clear hown4 hg4 b4; refine hK _ _ ?_; clear hK K)
      | (refine wpList_wanted (by rfl) fun K hK => ?_; refine wp_appI (Operand.tmp 21) (Operand.tmp 22) rfl W3.heap.size _ ([] ++ ms) [5] rfl (World.ownsRow.alloc NY.out _) (some ⟨w4.heap.size, 0, none⟩) 1 1 rfl (five_src w4) (by simp; omega) (by have := B4.out.size; simp; omega) ?_; intro v5 w5 hown5 hg5; have b5 : Below W3.heap.size W3 w5 := app_below (ms := ms) (B4.out.alloc B4.out.size _) (World.ownsRow.alloc NY.out _) (by have := B4.out.size; simp; omega) hg5; have B5 := Lib.hid b5; obtain ⟨yo2, yn2, yc2, rfl⟩ := own_form hown5; have NZ := Lib.hid hown5; clear hown5 hg5 b5; refine hK _ _ ?_; clear hK K))
    rw [List.nil_append] at NZ
    have YC := Lib.hid (alloc_at w5 (.cells #[.int .i64 3, .string ⟨#[97]⟩, .slice yo2 yn2 yc2, .slice none 0 0, .int .i64 0] 28))
    have YA := Lib.hid ((NZ.out.at (by simp; omega)).keeps (Keeps.of_below ((Below.refl w5.heap.size w5).alloc (Nat.le_refl _) (.cells #[.int .i64 3, .string ⟨#[97]⟩, .slice yo2 yn2 yc2, .slice none 0 0, .int .i64 0] 28))))
    have B6 := Lib.hid (B5.out.alloc B5.out.size (.cells #[.int .i64 3, .string ⟨#[97]⟩, .slice yo2 yn2 yc2, .slice none 0 0, .int .i64 0] 28))
    have hx6 : w5.heap.size < (w5.alloc (.cells #[.int .i64 3, .string ⟨#[97]⟩, .slice yo2 yn2 yc2, .slice none 0 0, .int .i64 0] 28)).heap.size := by simp
    generalize w5.alloc (.cells #[.int .i64 3, .string ⟨#[97]⟩, .slice yo2 yn2 yc2, .slice none 0 0, .int .i64 0] 28) = W6 at YC YA B6 hx6 ⊢
    replace YA := Lib.hid YA.out.bound
    have S6 := Lib.hid (S3.out.below B6.out)
    have XC6 := Lib.hid (Below.row B6.out XC.out)
    have XA6 := Lib.hid (XA.out.keeps (Keeps.of_below B6.out))
    clear NY NZ B4 B5
    go_upto_region 8 with (refine wpList_wanted (by rfl) fun K hK => ?_; refine wp_appI (Operand.tmp 25) (Operand.tmp 26) rfl W6.heap.size _ [] ms rfl (Nums.none W6 W6.heap.size (Nat.le_refl _)) a0 len0 cap0 rfl (S6.out.below ((Below.refl _ _).alloc (Nat.le_refl _) _)) (by simp; omega) (by simp) ?_; intro v7 w7 hown7 hg7; have b7 : Below W6.heap.size W6 w7 := app_below (ms := ms) ((Below.refl _ _).alloc (Nat.le_refl _) _) (Nums.none W6 W6.heap.size (Nat.le_refl _)) (by simp) hg7; have B7 := Lib.hid b7; obtain ⟨zo, zn, zc, rfl⟩ := own_form hown7; have NZ := Lib.hid hown7; clear hown7 hg7 b7; refine hK _ _ ?_; clear hK K)
    rw [List.nil_append] at NZ
    have ZC := Lib.hid (alloc_at w7 (.cells #[.int .i64 3, .string ⟨#[97]⟩, .slice zo zn zc, .slice none 0 0, .int .i64 0] 28))
    have ZN : Hid (Nums W6.heap.size (w7.alloc (.cells #[.int .i64 3, .string ⟨#[97]⟩, .slice zo zn zc, .slice none 0 0, .int .i64 0] 28)) (.slice zo zn zc) ms) := World.ownsRow.alloc NZ.out _
    have B9 := Lib.hid (B7.out.alloc B7.out.size (.cells #[.int .i64 3, .string ⟨#[97]⟩, .slice zo zn zc, .slice none 0 0, .int .i64 0] 28))
    have hx9 : w7.heap.size < (w7.alloc (.cells #[.int .i64 3, .string ⟨#[97]⟩, .slice zo zn zc, .slice none 0 0, .int .i64 0] 28)).heap.size := by simp
    have hzl : ∀ k, (Value.slice zo zn zc).ownBlock = some k → k ≠ w7.heap.size := fun k hk => by have := (World.ownsRow.lt NZ.out k hk).2; omega
    generalize w7.alloc (.cells #[.int .i64 3, .string ⟨#[97]⟩, .slice zo zn zc, .slice none 0 0, .int .i64 0] 28) = W9 at ZC ZN B9 hx9 ⊢
    have XC9 := Lib.hid (Below.row B9.out XC6.out)
    have XA9 := Lib.hid (XA6.out.keeps (Keeps.of_below B9.out))
    have YC9 := Lib.hid (Below.row B9.out YC.out)
    have YA9 := Lib.hid (YA.out.keeps (Keeps.of_below B9.out))
    have BW := Lib.hid ((B1.out.trans (B3.out.mono B1.out.size)).trans ((B6.out.mono (Nat.le_trans B1.out.size B3.out.size)).trans (B9.out.mono (Nat.le_trans (Nat.le_trans B1.out.size B3.out.size) B6.out.size))))
    clear NZ B7 XC XA YC YA XC6 XA6 S1 S3 S6
    by_cases h1 : 1 < len0
    · have q1 : decide ((1 : Int) < (len0 : Int)) = true := decide_eq_true (by omega)
      have F0 := within_some a1 (len0 - 1) I1.out (by omega) (by omega)
      rw [show ((len0 - 1 : Nat) : Int) = (len0 : Int) - 1 by omega] at F0
      have F := Lib.hid F0
      clear F0
      go_wp2_with fail
      refine (F.out _).mono ?_
      rintro e w' ⟨i, hi, rfl, rfl⟩
      simp only []
      clear q0 q1
      iterate 4 go_step
      have hi2 : i + 1 < ms.length := by have := HL.out; omega
      obtain ⟨gz, zcap, cur, hze, hgz, hgc, hcc⟩ := Nums.row ZN.out (by omega)
      injection hze with hz1 hz2 hz3
      subst hz1 hz2 hz3
      obtain ⟨k, hk⟩ : ∃ k, i + 1 = k := ⟨_, rfl⟩
      have hkI : (i : Int) + 1 = (k : Int) := by omega
      have hkl : k < ms.length := by omega
      have hil : i < ms.length := by omega
      have hgn : gz ≠ w7.heap.size := hzl gz rfl
      obtain ⟨a, ha⟩ : ∃ a, ms[i] = a := ⟨_, rfl⟩
      obtain ⟨b, hb⟩ : ∃ b, ms[k] = b := ⟨_, rfl⟩
      have ca0 : W9.cell? ⟨gz, i, none⟩ = some (.int .i64 a) := by rw [Lib.cell_of_heap hgc]; show cur[i]? = _; rw [hcc i hil, ha]
      have cb0 : W9.cell? ⟨gz, k, none⟩ = some (.int .i64 b) := by rw [Lib.cell_of_heap hgc]; show cur[k]? = _; rw [hcc k hkl, hb]
      have CA := Lib.hid ca0
      have CB := Lib.hid cb0
      have CZ := Lib.hid (show W9.cell? ⟨w7.heap.size, 2, none⟩ = some (.slice (some ⟨gz, 0, none⟩) ms.length zc) by rw [Lib.cell_of_heap ZC.out]; rfl)
      have hfz : ∀ j, W9.frozen? ⟨gz, j, none⟩ = false := fun j => frozen_of_row W9 gz j cur 3 hgc
      have FZ := Lib.hid hfz
      clear ca0 cb0 hfz
      have FS1h := heap_setCell_same W9.drew gz i cur 3 (.int .i64 b) hgc
      have c2' : (W9.drew.setCell ⟨gz, i, none⟩ (.int .i64 b)).cell? ⟨gz, k, none⟩ = some (.int .i64 b) := by
        rw [Lib.cell_of_heap FS1h]; show (cur.setIfInBounds i _)[k]? = _; rw [Array.getElem?_setIfInBounds_ne (by omega), hcc k hkl, hb]
      have f2' := frozen_of_row _ gz k _ 3 FS1h
      have C2 := Lib.hid c2'
      have F2 := Lib.hid f2'
      have FS2h := heap_setCell_same _ gz k _ 3 (.int .i64 a) FS1h
      have s1 : (W9.drew.setCell ⟨gz, i, none⟩ (.int .i64 b)).cell? ⟨w7.heap.size, 2, none⟩ = some (.slice (some ⟨gz, 0, none⟩) ms.length zc) := (World.cell?_setCell_far _ _ _ _ hgn).trans CZ.out
      have s2 : ((W9.drew.setCell ⟨gz, i, none⟩ (.int .i64 b)).setCell ⟨gz, k, none⟩ (.int .i64 a)).cell? ⟨w7.heap.size, 2, none⟩ = some (.slice (some ⟨gz, 0, none⟩) ms.length zc) := (World.cell?_setCell_far _ _ _ _ hgn).trans s1
      have T1 := Lib.hid s1
      have T2 := Lib.hid s2
      have ZAs := swapped (w := W9.drew) hgc hcc hk hkl hs a b (cap := zc)
      have BSs : Below W6.heap.size W9 ((W9.drew.setCell ⟨gz, i, none⟩ (.int .i64 b)).setCell ⟨gz, k, none⟩ (.int .i64 a)) := ((Below.refl _ _).drew.setCell (p := ⟨gz, i, none⟩) hgz _).setCell (p := ⟨gz, k, none⟩) hgz _
      have ZCs : ((W9.drew.setCell ⟨gz, i, none⟩ (.int .i64 b)).setCell ⟨gz, k, none⟩ (.int .i64 a)).heap[w7.heap.size]? = some (.cells #[.int .i64 3, .string ⟨#[97]⟩, .slice (some ⟨gz, 0, none⟩) ms.length zc, .slice none 0 0, .int .i64 0] 28 (0, 0)) := by
        rw [heap_setCell_other _ _ _ _ (fun e => hgn e.symm), heap_setCell_other _ _ _ _ (fun e => hgn e.symm)]; exact ZC.out
      have ci' : ((W9.drew.setCell ⟨gz, i, none⟩ (.int .i64 b)).setCell ⟨gz, k, none⟩ (.int .i64 a)).cell? ⟨gz, i, none⟩ = some (.int .i64 b) := by
        have hic : i < cur.size := (Array.getElem?_eq_some_iff.1 (hcc i hil)).1
        rw [Lib.cell_of_heap FS2h]; show ((cur.setIfInBounds i _).setIfInBounds k _)[i]? = _; rw [Array.getElem?_setIfInBounds_ne (by omega), Array.getElem?_setIfInBounds_self_of_lt hic]
      have ck' : ((W9.drew.setCell ⟨gz, i, none⟩ (.int .i64 b)).setCell ⟨gz, k, none⟩ (.int .i64 a)).cell? ⟨gz, k, none⟩ = some (.int .i64 a) := by
        have hkc : k < cur.size := (Array.getElem?_eq_some_iff.1 (hcc k hkl)).1
        rw [Lib.cell_of_heap FS2h]; show ((cur.setIfInBounds i _).setIfInBounds k _)[k]? = _; rw [Array.getElem?_setIfInBounds_self_of_lt (by simpa using hkc)]
      have hq := swap_eq ms i k hk hkl
      rw [ha, hb] at hq
      have HQ0 := Lib.hid hq
      have ZAS := Lib.hid ZAs
      have BSS := Lib.hid BSs
      have ZCS := Lib.hid ZCs
      have CIS := Lib.hid ci'
      have CKS := Lib.hid ck'
      have HK := Lib.hid hk
      obtain ⟨WD, hWD⟩ : ∃ WD, WD = W9.drew := ⟨_, rfl⟩
      rw [← hWD] at C2 F2 T1 T2 ZAS BSS ZCS CIS CKS
      have CA : Hid (WD.cell? ⟨gz, i, none⟩ = some (.int .i64 a)) := by rw [hWD]; exact CA.out
      have CB : Hid (WD.cell? ⟨gz, k, none⟩ = some (.int .i64 b)) := by rw [hWD]; exact CB.out
      have CY : Hid (WD.cell? ⟨w7.heap.size, 2, none⟩ = some (.slice (some ⟨gz, 0, none⟩) ms.length zc)) := by rw [hWD]; exact CZ.out
      have FZ : Hid (∀ j, WD.frozen? ⟨gz, j, none⟩ = false) := by rw [hWD]; exact FZ.out
      have HWD := Lib.hid hWD
      clear FS1h c2' f2' FS2h s1 s2 ZAs BSs ZCs ci' ck' hq ha hb hcc hk hWD
      go_upto_region 11 with fail
      refine wp_region_noPanic ?_
      refine wp_region_held_drew (S := fun w' => w'.cell? ⟨w7.heap.size, 2, none⟩ = some (.slice (some ⟨gz, 0, none⟩) ms.length zc)) (by kernel_rfl) (CZ.out) (fun hHeld => ?_)
      rw [← HWD.out] at hHeld ⊢
      refine wpAnyH_take (i := 0) (v := Value.pointer (some ⟨w7.heap.size, 2, none⟩)) rfl (by kernel_rfl) (by kernel_rfl) (by kernel_rfl) (fun _ _ _ h => h) (Or.inl ⟨rfl, fun w' hw' => ?_⟩) hHeld ?_
      · go_simp
      simp only [List.getElem_toArray, List.getElem_cons_succ, List.getElem_cons_zero, Act.put, List.setIfInBounds_toArray, List.set_cons_zero, List.set_cons_succ]
      refine wpAnyH_take (i := 1) (v := Value.slice (some ⟨gz, 0, none⟩) ms.length zc) rfl (by kernel_rfl) (by kernel_rfl) (by kernel_rfl) (fun _ _ _ h => h) (Or.inl ⟨rfl, fun w' hw' => ?_⟩) hHeld ?_
      · go_simp
      simp only [List.getElem_toArray, List.getElem_cons_succ, List.getElem_cons_zero, Act.put, List.setIfInBounds_toArray, List.set_cons_zero, List.set_cons_succ]
      refine wpAnyH_take (i := 2) (v := Value.int .i64 i) rfl (by kernel_rfl) (by kernel_rfl) (by kernel_rfl) (fun _ _ _ h => h) (Or.inl ⟨rfl, fun w' hw' => ?_⟩) hHeld ?_
      · go_simp
      simp only [List.getElem_toArray, List.getElem_cons_succ, List.getElem_cons_zero, Act.put, List.setIfInBounds_toArray, List.set_cons_zero, List.set_cons_succ]
      refine wpAnyH_take (i := 3) (v := Value.pointer (some ⟨w7.heap.size, 2, none⟩)) rfl (by kernel_rfl) (by kernel_rfl) (by kernel_rfl) (fun _ _ _ h => h) (Or.inl ⟨rfl, fun w' hw' => ?_⟩) hHeld ?_
      · go_simp
      simp only [List.getElem_toArray, List.getElem_cons_succ, List.getElem_cons_zero, Act.put, List.setIfInBounds_toArray, List.set_cons_zero, List.set_cons_succ]
      refine wpAnyH_take (i := 4) (v := Value.slice (some ⟨gz, 0, none⟩) ms.length zc) rfl (by kernel_rfl) (by kernel_rfl) (by kernel_rfl) (fun _ _ _ h => h) (Or.inl ⟨rfl, fun w' hw' => ?_⟩) hHeld ?_
      · go_simp
      simp only [List.getElem_toArray, List.getElem_cons_succ, List.getElem_cons_zero, Act.put, List.setIfInBounds_toArray, List.set_cons_zero, List.set_cons_succ]
      refine wpAnyH_take (i := 5) (v := Value.int .i64 i) rfl (by kernel_rfl) (by kernel_rfl) (by kernel_rfl) (fun _ _ _ h => h) (Or.inl ⟨rfl, fun w' hw' => ?_⟩) hHeld ?_
      · go_simp
      simp only [List.getElem_toArray, List.getElem_cons_succ, List.getElem_cons_zero, Act.put, List.setIfInBounds_toArray, List.set_cons_zero, List.set_cons_succ]
      refine wpAnyH_take (i := 6) (v := Value.int .i64 k) rfl (by kernel_rfl) (by kernel_rfl) (by kernel_rfl) (fun _ _ _ h => h) (Or.inl ⟨rfl, fun w' hw' => ?_⟩) hHeld ?_
      · go_simp; exact IntWalk.i64_in _ ⟨by omega, by omega⟩
      simp only [List.getElem_toArray, List.getElem_cons_succ, List.getElem_cons_zero, Act.put, List.setIfInBounds_toArray, List.set_cons_zero, List.set_cons_succ]
      refine wpAnyH_take (i := 7) (v := Value.pointer (some ⟨w7.heap.size, 2, none⟩)) rfl (by kernel_rfl) (by kernel_rfl) (by kernel_rfl) (fun _ _ _ h => h) (Or.inl ⟨rfl, fun w' hw' => ?_⟩) hHeld ?_
      · go_simp
      simp only [List.getElem_toArray, List.getElem_cons_succ, List.getElem_cons_zero, Act.put, List.setIfInBounds_toArray, List.set_cons_zero, List.set_cons_succ]
      refine wpAnyH_take (i := 8) (v := Value.slice (some ⟨gz, 0, none⟩) ms.length zc) rfl (by kernel_rfl) (by kernel_rfl) (by kernel_rfl) (fun _ _ _ h => h) (Or.inl ⟨rfl, fun w' hw' => ?_⟩) hHeld ?_
      · go_simp
      simp only [List.getElem_toArray, List.getElem_cons_succ, List.getElem_cons_zero, Act.put, List.setIfInBounds_toArray, List.set_cons_zero, List.set_cons_succ]
      refine wpAnyH_take (i := 9) (v := Value.int .i64 i) rfl (by kernel_rfl) (by kernel_rfl) (by kernel_rfl) (fun _ _ _ h => h) (Or.inl ⟨rfl, fun w' hw' => ?_⟩) hHeld ?_
      · go_simp
      simp only [List.getElem_toArray, List.getElem_cons_succ, List.getElem_cons_zero, Act.put, List.setIfInBounds_toArray, List.set_cons_zero, List.set_cons_succ]
      refine wpAnyH_take (i := 10) (v := Value.int .i64 k) rfl (by kernel_rfl) (by kernel_rfl) (by kernel_rfl) (fun _ _ _ h => h) (Or.inl ⟨rfl, fun w' hw' => ?_⟩) hHeld ?_
      · go_simp; exact IntWalk.i64_in _ ⟨by omega, by omega⟩
      simp only [List.getElem_toArray, List.getElem_cons_succ, List.getElem_cons_zero, Act.put, List.setIfInBounds_toArray, List.set_cons_zero, List.set_cons_succ]
      refine wpAnyH_take (i := 11) (v := Value.pointer (some ⟨gz, k, none⟩)) rfl (by kernel_rfl) (by kernel_rfl) (by kernel_rfl) (fun _ _ _ h => h) (Or.inl ⟨rfl, fun w' hw' => ?_⟩) hHeld ?_
      · go_simp
      simp only [List.getElem_toArray, List.getElem_cons_succ, List.getElem_cons_zero, Act.put, List.setIfInBounds_toArray, List.set_cons_zero, List.set_cons_succ]
      refine wpAnyH_take (i := 13) (v := Value.pointer (some ⟨w7.heap.size, 2, none⟩)) rfl (by kernel_rfl) (by kernel_rfl) (by kernel_rfl) (fun _ _ _ h => h) (Or.inl ⟨rfl, fun w' hw' => ?_⟩) hHeld ?_
      · go_simp
      simp only [List.getElem_toArray, List.getElem_cons_succ, List.getElem_cons_zero, Act.put, List.setIfInBounds_toArray, List.set_cons_zero, List.set_cons_succ]
      refine wpAnyH_take (i := 14) (v := Value.slice (some ⟨gz, 0, none⟩) ms.length zc) rfl (by kernel_rfl) (by kernel_rfl) (by kernel_rfl) (fun _ _ _ h => h) (Or.inl ⟨rfl, fun w' hw' => ?_⟩) hHeld ?_
      · go_simp
      simp only [List.getElem_toArray, List.getElem_cons_succ, List.getElem_cons_zero, Act.put, List.setIfInBounds_toArray, List.set_cons_zero, List.set_cons_succ]
      refine wpAnyH_take (i := 15) (v := Value.int .i64 i) rfl (by kernel_rfl) (by kernel_rfl) (by kernel_rfl) (fun _ _ _ h => h) (Or.inl ⟨rfl, fun w' hw' => ?_⟩) hHeld ?_
      · go_simp
      simp only [List.getElem_toArray, List.getElem_cons_succ, List.getElem_cons_zero, Act.put, List.setIfInBounds_toArray, List.set_cons_zero, List.set_cons_succ]
      refine wpAnyH_take (i := 16) (v := Value.pointer (some ⟨gz, i, none⟩)) rfl (by kernel_rfl) (by kernel_rfl) (by kernel_rfl) (fun _ _ _ h => h) (Or.inl ⟨rfl, fun w' hw' => ?_⟩) hHeld ?_
      · go_simp
      simp only [List.getElem_toArray, List.getElem_cons_succ, List.getElem_cons_zero, Act.put, List.setIfInBounds_toArray, List.set_cons_zero, List.set_cons_succ]
      refine wpAnyH_ready (rs := [12, 17]) (by kernel_rfl) (by simp) ?_
      refine (AllReadyH.cons rfl (fun K hK => ?_) (AllReadyH.cons rfl (fun K hK => ?_) AllReadyH.nil))
      · skip
        have cx := CB.out
        go_simp
        refine hK.out _ _ hHeld (fun hHeld => ?_)
        clear hK K cx
        try simp only [List.getElem_toArray, List.getElem_cons_succ, List.getElem_cons_zero, Act.put, List.setIfInBounds_toArray, List.set_cons_zero, List.set_cons_succ]
        refine wpAnyH_ready (rs := [17]) (by kernel_rfl) (by simp) ?_
        refine (AllReadyH.cons rfl (fun K hK => ?_) AllReadyH.nil)
        have cx := CA.out
        go_simp
        refine hK.out _ _ hHeld (fun hHeld => ?_)
        clear hK K cx
        try simp only [List.getElem_toArray, List.getElem_cons_succ, List.getElem_cons_zero, Act.put, List.setIfInBounds_toArray, List.set_cons_zero, List.set_cons_succ]
        refine wpAnyH_take (i := 18) (v := Value.pointer (some ⟨gz, i, none⟩)) rfl (by kernel_rfl) (by kernel_rfl) (by kernel_rfl) (fun _ _ _ h => h) (Or.inl ⟨rfl, fun w' hw' => ?_⟩) hHeld ?_
        · go_simp
        simp only [List.getElem_toArray, List.getElem_cons_succ, List.getElem_cons_zero, Act.put, List.setIfInBounds_toArray, List.set_cons_zero, List.set_cons_succ]
        refine wpAnyH_ready (rs := [19]) (by kernel_rfl) (by simp) ?_
        refine (AllReadyH.cons rfl (fun K hK => ?_) AllReadyH.nil)
        have cx := CA.out
        have fx := FZ.out i
        go_simp
        refine hK.out _ _ T1.out (fun hHeld => ?_)
        clear hK K cx fx
        try simp only [List.getElem_toArray, List.getElem_cons_succ, List.getElem_cons_zero, Act.put, List.setIfInBounds_toArray, List.set_cons_zero, List.set_cons_succ]
        refine wpAnyH_take (i := 20) (v := Value.pointer (some ⟨gz, k, none⟩)) rfl (by kernel_rfl) (by kernel_rfl) (by kernel_rfl) (fun _ _ _ h => h) (Or.inl ⟨rfl, fun w' hw' => ?_⟩) hHeld ?_
        · go_simp
        simp only [List.getElem_toArray, List.getElem_cons_succ, List.getElem_cons_zero, Act.put, List.setIfInBounds_toArray, List.set_cons_zero, List.set_cons_succ]
        refine wpAnyH_ready (rs := [21]) (by kernel_rfl) (by simp) ?_
        refine (AllReadyH.cons rfl (fun K hK => ?_) AllReadyH.nil)
        have cx := C2.out
        have fx := F2.out
        go_simp
        refine hK.out _ _ T2.out (fun hHeld => ?_)
        clear hK K cx fx
        try simp only [List.getElem_toArray, List.getElem_cons_succ, List.getElem_cons_zero, Act.put, List.setIfInBounds_toArray, List.set_cons_zero, List.set_cons_succ]
        refine wpAnyH_done (by kernel_rfl) ?_ _
        refine NoPanic.normal ?_
        clear hHeld
        generalize (WD.setCell ⟨gz, i, none⟩ (.int .i64 b)).setCell ⟨gz, k, none⟩ (.int .i64 a) = WS at T2 ZAS BSS ZCS CIS CKS ⊢
        have XC9' := Lib.hid ((BSS.out.block _ (Nat.lt_of_lt_of_le hx3 B6.out.size)).trans XC9.out)
        have YC9' := Lib.hid ((BSS.out.block _ hx6).trans YC9.out)
        have XA9' := Lib.hid (XA9.out.belowB BSS.out (fun g hg => Nat.lt_of_lt_of_le hg.2 B6.out.size))
        have YA9' := Lib.hid (YA9.out.belowB BSS.out (fun g hg => hg.2))
        have hw6 : w.heap.size ≤ W6.heap.size := Nat.le_trans (Nat.le_trans B1.out.size B3.out.size) B6.out.size
        have FB := Lib.hid (BW.out.trans (BSS.out.mono hw6))
        clear XC9 YC9 XA9 YA9
        have cz := T2.out
        have ci := CIS.out
        have ck := CKS.out
        obtain ⟨tb, htb⟩ : ∃ tb, (b != a) = tb := ⟨_, rfl⟩
        have HQ1 : Hid ((ms == (ms.set i b).set k a) = !tb) := by show _ = _; rw [← htb]; exact HQ0.out
        go_wp2_with fail
        go_quiet (fail)
        go_wp2_with fail
        have XC9 := Lib.hid XC9'.out
        have YC9 := Lib.hid YC9'.out
        have XA9 := Lib.hid XA9'.out
        have YA9 := Lib.hid YA9'.out
        have ZC9 := Lib.hid ZCS.out
        have ZA9 := Lib.hid ZAS.out
        clear XC9' YC9' XA9' YA9' ZCS ZAS htb cz ci ck CIS CKS T2 T1 C2 F2 CA CB HWD HQ0
        cases tb with
        | false =>
          have HQ : Hid ((ms == (ms.set i b).set k a) = true) := HQ1.out
          have FXY : Hid (∀ w', Below WS.heap.size WS w' → Calls Try.prog 19 #[.agg #[.int .i64 3, .string ⟨#[97]⟩, .slice xo xn xc, .slice none 0 0, .int .i64 0], .agg #[.int .i64 3, .string ⟨#[97]⟩, .slice yo2 yn2 yc2, .slice none 0 0, .int .i64 0]] w' (RetBool false w')) := fun w' hb => by
            have := same_any 1 (by decide) (.mk 3 ⟨#[97]⟩ ms [] 0) (.mk 3 ⟨#[97]⟩ (ms ++ [5]) [] 0) (by simp [Dt.size, Dt.sizes]) _ _ _ _ w' (sym_at (XA9.out.keeps (Keeps.of_below hb))) (sym_at (YA9.out.keeps (Keeps.of_below hb)))
            rw [same_mk, ne_snoc] at this
            simpa using this
          have FXZ : Hid (∀ w', Below WS.heap.size WS w' → Calls Try.prog 19 #[.agg #[.int .i64 3, .string ⟨#[97]⟩, .slice xo xn xc, .slice none 0 0, .int .i64 0], .agg #[.int .i64 3, .string ⟨#[97]⟩, .slice (some ⟨gz, 0, none⟩) ms.length zc, .slice none 0 0, .int .i64 0]] w' (RetBool true w')) := fun w' hb => by
            have := same_any 1 (by decide) (.mk 3 ⟨#[97]⟩ ms [] 0) (.mk 3 ⟨#[97]⟩ ((ms.set i b).set k a) [] 0) (by simp [Dt.size, Dt.sizes]) _ _ _ _ w' (sym_at (XA9.out.keeps (Keeps.of_below hb))) (sym_at (ZA9.out.keeps (Keeps.of_below hb)))
            rw [same_mk, HQ.out] at this
            simpa [Dt.sames] using this
          have FPX : Hid (∀ w', Below WS.heap.size WS w' → Calls Try.prog 15 #[.agg #[.int .i64 3, .string ⟨#[97]⟩, .slice xo xn xc, .slice none 0 0, .int .i64 0]] w' (RetCs #[.int .i64 3, .string ⟨#[97]⟩, .slice none 0 0, .slice none 0 0, .int .i64 0] w')) := fun w' _ => plain_leaf 3 ⟨#[97]⟩ (.slice xo xn xc) 0 rfl w'
          have FPY : Hid (∀ w', Below WS.heap.size WS w' → Calls Try.prog 15 #[.agg #[.int .i64 3, .string ⟨#[97]⟩, .slice yo2 yn2 yc2, .slice none 0 0, .int .i64 0]] w' (RetCs #[.int .i64 3, .string ⟨#[97]⟩, .slice none 0 0, .slice none 0 0, .int .i64 0] w')) := fun w' _ => plain_leaf 3 ⟨#[97]⟩ (.slice yo2 yn2 yc2) 0 rfl w'
          have FPP : Hid (∀ w', Below WS.heap.size WS w' → Calls Try.prog 19 #[.agg #[.int .i64 3, .string ⟨#[97]⟩, .slice none 0 0, .slice none 0 0, .int .i64 0], .agg #[.int .i64 3, .string ⟨#[97]⟩, .slice none 0 0, .slice none 0 0, .int .i64 0]] w' (RetBool true w')) := fun w' _ => same_leaf 3 3 ⟨#[97]⟩ 0 0 w' true rfl
          have FIS : Hid (∀ w', Below WS.heap.size WS w' → Calls Try.prog 24 #[.agg #[.int .i64 3, .string ⟨#[97]⟩, .slice yo2 yn2 yc2, .slice none 0 0, .int .i64 0], .string ⟨#[97]⟩] w' (RetBool true w')) := fun w' _ => is_any 3 ⟨#[97]⟩ ⟨#[97]⟩ (.slice yo2 yn2 yc2) (.slice none 0 0) 0 true true rfl (by simp) rfl rfl w'
          refine wp_region_noPanic ?_
          refine wp_region_held_drew (S := Below WS.heap.size WS) (by kernel_rfl) ((Below.refl _ _).trans ⟨rfl, rfl, rfl, Nat.le_refl _, fun _ _ => rfl⟩) (fun hHeld => ?_)
          refine wpAnyH_take (i := 0) rfl (by kernel_rfl) (by kernel_rfl) (by kernel_rfl) (fun _ _ _ h => h) (yieldsIf_load_mid (by rfl) _ _ rfl w2.heap.size 0 rfl [.int .i64 3, .string ⟨#[97]⟩, .slice xo xn xc, .slice none 0 0, .int .i64 0] _ (fun w' hw' => row_range (Below.row hw' XC9.out)) Try.underlying28 rfl info28) hHeld ?_
          simp only [List.getElem_toArray, List.getElem_cons_succ, List.getElem_cons_zero, Act.put, List.setIfInBounds_toArray, List.set_cons_zero, List.set_cons_succ]
          refine wpAnyH_take (i := 1) rfl (by kernel_rfl) (by kernel_rfl) (by kernel_rfl) (fun _ _ _ h => h) (yieldsIf_load_mid (by rfl) _ _ rfl w5.heap.size 0 rfl [.int .i64 3, .string ⟨#[97]⟩, .slice yo2 yn2 yc2, .slice none 0 0, .int .i64 0] _ (fun w' hw' => row_range (Below.row hw' YC9.out)) Try.underlying28 rfl info28) hHeld ?_
          simp only [List.getElem_toArray, List.getElem_cons_succ, List.getElem_cons_zero, Act.put, List.setIfInBounds_toArray, List.set_cons_zero, List.set_cons_succ]
          refine wpAnyH_ready (rs := [2]) (by kernel_rfl) (by simp) ?_
          refine (AllReadyH.cons rfl (fun K hK => ?_) AllReadyH.nil)
          go_simp
          refine (FXY.out _ hHeld).mono ?_
          rintro e w5' ⟨rfl, hb⟩
          have hS := Below.trans hHeld (hb.mono hHeld.size)
          refine hK.out _ _ hS (fun hHeld => ?_)
          clear hK K hb hS
          try simp only [List.getElem_toArray, List.getElem_cons_succ, List.getElem_cons_zero, Act.put, List.setIfInBounds_toArray, List.set_cons_zero, List.set_cons_succ]
          refine wpAnyH_take (i := 3) (v := Value.bool true) rfl (by kernel_rfl) (by kernel_rfl) (by kernel_rfl) (fun _ _ _ h => h) (Or.inl ⟨rfl, fun w' hw' => ?_⟩) hHeld ?_
          · go_simp
          simp only [List.getElem_toArray, List.getElem_cons_succ, List.getElem_cons_zero, Act.put, List.setIfInBounds_toArray, List.set_cons_zero, List.set_cons_succ]
          refine wpAnyH_take (i := 4) (v := Value.bool true) rfl (by kernel_rfl) (by kernel_rfl) (by kernel_rfl) (fun _ _ _ h => h) (Or.inl ⟨rfl, fun w' hw' => ?_⟩) hHeld ?_
          · go_simp
          simp only [List.getElem_toArray, List.getElem_cons_succ, List.getElem_cons_zero, Act.put, List.setIfInBounds_toArray, List.set_cons_zero, List.set_cons_succ]
          refine wpAnyH_take (i := 5) rfl (by kernel_rfl) (by kernel_rfl) (by kernel_rfl) (fun _ _ _ h => h) (yieldsIf_load_mid (by rfl) _ _ rfl w2.heap.size 0 rfl [.int .i64 3, .string ⟨#[97]⟩, .slice xo xn xc, .slice none 0 0, .int .i64 0] _ (fun w' hw' => row_range (Below.row hw' XC9.out)) Try.underlying28 rfl info28) hHeld ?_
          simp only [List.getElem_toArray, List.getElem_cons_succ, List.getElem_cons_zero, Act.put, List.setIfInBounds_toArray, List.set_cons_zero, List.set_cons_succ]
          refine wpAnyH_take (i := 6) rfl (by kernel_rfl) (by kernel_rfl) (by kernel_rfl) (fun _ _ _ h => h) (yieldsIf_load_mid (by rfl) _ _ rfl w7.heap.size 0 rfl [.int .i64 3, .string ⟨#[97]⟩, .slice (some ⟨gz, 0, none⟩) ms.length zc, .slice none 0 0, .int .i64 0] _ (fun w' hw' => row_range (Below.row hw' ZC9.out)) Try.underlying28 rfl info28) hHeld ?_
          simp only [List.getElem_toArray, List.getElem_cons_succ, List.getElem_cons_zero, Act.put, List.setIfInBounds_toArray, List.set_cons_zero, List.set_cons_succ]
          refine wpAnyH_take (i := 8) (v := Value.bool false) rfl (by kernel_rfl) (by kernel_rfl) (by kernel_rfl) (fun _ _ _ h => h) (Or.inl ⟨rfl, fun w' hw' => ?_⟩) hHeld ?_
          · go_simp
          simp only [List.getElem_toArray, List.getElem_cons_succ, List.getElem_cons_zero, Act.put, List.setIfInBounds_toArray, List.set_cons_zero, List.set_cons_succ]
          refine wpAnyH_take (i := 9) (v := Value.bool true) rfl (by kernel_rfl) (by kernel_rfl) (by kernel_rfl) (fun _ _ _ h => h) (Or.inl ⟨rfl, fun w' hw' => ?_⟩) hHeld ?_
          · go_simp
          simp only [List.getElem_toArray, List.getElem_cons_succ, List.getElem_cons_zero, Act.put, List.setIfInBounds_toArray, List.set_cons_zero, List.set_cons_succ]
          refine wpAnyH_ready (rs := [7]) (by kernel_rfl) (by simp) ?_
          refine (AllReadyH.cons rfl (fun K hK => ?_) AllReadyH.nil)
          go_simp
          refine (FXZ.out _ hHeld).mono ?_
          rintro e w5' ⟨rfl, hb⟩
          have hS := Below.trans hHeld (hb.mono hHeld.size)
          refine hK.out _ _ hS (fun hHeld => ?_)
          clear hK K hb hS
          try simp only [List.getElem_toArray, List.getElem_cons_succ, List.getElem_cons_zero, Act.put, List.setIfInBounds_toArray, List.set_cons_zero, List.set_cons_succ]
          refine wpAnyH_take (i := 10) (v := Value.bool true) rfl (by kernel_rfl) (by kernel_rfl) (by kernel_rfl) (fun _ _ _ h => h) (Or.inl ⟨rfl, fun w' hw' => ?_⟩) hHeld ?_
          · go_simp
          simp only [List.getElem_toArray, List.getElem_cons_succ, List.getElem_cons_zero, Act.put, List.setIfInBounds_toArray, List.set_cons_zero, List.set_cons_succ]
          refine wpAnyH_take (i := 11) (v := Value.bool true) rfl (by kernel_rfl) (by kernel_rfl) (by kernel_rfl) (fun _ _ _ h => h) (Or.inl ⟨rfl, fun w' hw' => ?_⟩) hHeld ?_
          · go_simp
          simp only [List.getElem_toArray, List.getElem_cons_succ, List.getElem_cons_zero, Act.put, List.setIfInBounds_toArray, List.set_cons_zero, List.set_cons_succ]
          refine wpAnyH_take (i := 12) (v := Value.bool true) rfl (by kernel_rfl) (by kernel_rfl) (by kernel_rfl) (fun _ _ _ h => h) (Or.inl ⟨rfl, fun w' hw' => ?_⟩) hHeld ?_
          · go_simp
          simp only [List.getElem_toArray, List.getElem_cons_succ, List.getElem_cons_zero, Act.put, List.setIfInBounds_toArray, List.set_cons_zero, List.set_cons_succ]
          refine wpAnyH_take (i := 13) rfl (by kernel_rfl) (by kernel_rfl) (by kernel_rfl) (fun _ _ _ h => h) (yieldsIf_load_mid (by rfl) _ _ rfl w2.heap.size 0 rfl [.int .i64 3, .string ⟨#[97]⟩, .slice xo xn xc, .slice none 0 0, .int .i64 0] _ (fun w' hw' => row_range (Below.row hw' XC9.out)) Try.underlying28 rfl info28) hHeld ?_
          simp only [List.getElem_toArray, List.getElem_cons_succ, List.getElem_cons_zero, Act.put, List.setIfInBounds_toArray, List.set_cons_zero, List.set_cons_succ]
          refine wpAnyH_take (i := 15) rfl (by kernel_rfl) (by kernel_rfl) (by kernel_rfl) (fun _ _ _ h => h) (yieldsIf_load_mid (by rfl) _ _ rfl w5.heap.size 0 rfl [.int .i64 3, .string ⟨#[97]⟩, .slice yo2 yn2 yc2, .slice none 0 0, .int .i64 0] _ (fun w' hw' => row_range (Below.row hw' YC9.out)) Try.underlying28 rfl info28) hHeld ?_
          simp only [List.getElem_toArray, List.getElem_cons_succ, List.getElem_cons_zero, Act.put, List.setIfInBounds_toArray, List.set_cons_zero, List.set_cons_succ]
          refine wpAnyH_ready (rs := [14]) (by kernel_rfl) (by simp) ?_
          refine (AllReadyH.cons rfl (fun K hK => ?_) AllReadyH.nil)
          go_simp
          refine (FPX.out _ hHeld).mono ?_
          rintro e w5' ⟨rfl, hb⟩
          have hS := Below.trans hHeld (hb.mono hHeld.size)
          refine hK.out _ _ hS (fun hHeld => ?_)
          clear hK K hb hS
          try simp only [List.getElem_toArray, List.getElem_cons_succ, List.getElem_cons_zero, Act.put, List.setIfInBounds_toArray, List.set_cons_zero, List.set_cons_succ]
          refine wpAnyH_ready (rs := [16]) (by kernel_rfl) (by simp) ?_
          refine (AllReadyH.cons rfl (fun K hK => ?_) AllReadyH.nil)
          go_simp
          refine (FPY.out _ hHeld).mono ?_
          rintro e w5' ⟨rfl, hb⟩
          have hS := Below.trans hHeld (hb.mono hHeld.size)
          refine hK.out _ _ hS (fun hHeld => ?_)
          clear hK K hb hS
          try simp only [List.getElem_toArray, List.getElem_cons_succ, List.getElem_cons_zero, Act.put, List.setIfInBounds_toArray, List.set_cons_zero, List.set_cons_succ]
          refine wpAnyH_ready (rs := [17]) (by kernel_rfl) (by simp) ?_
          refine (AllReadyH.cons rfl (fun K hK => ?_) AllReadyH.nil)
          go_simp
          refine (FPP.out _ hHeld).mono ?_
          rintro e w5' ⟨rfl, hb⟩
          have hS := Below.trans hHeld (hb.mono hHeld.size)
          refine hK.out _ _ hS (fun hHeld => ?_)
          clear hK K hb hS
          try simp only [List.getElem_toArray, List.getElem_cons_succ, List.getElem_cons_zero, Act.put, List.setIfInBounds_toArray, List.set_cons_zero, List.set_cons_succ]
          refine wpAnyH_take (i := 18) (v := Value.bool true) rfl (by kernel_rfl) (by kernel_rfl) (by kernel_rfl) (fun _ _ _ h => h) (Or.inl ⟨rfl, fun w' hw' => ?_⟩) hHeld ?_
          · go_simp
          simp only [List.getElem_toArray, List.getElem_cons_succ, List.getElem_cons_zero, Act.put, List.setIfInBounds_toArray, List.set_cons_zero, List.set_cons_succ]
          refine wpAnyH_take (i := 19) (v := Value.bool true) rfl (by kernel_rfl) (by kernel_rfl) (by kernel_rfl) (fun _ _ _ h => h) (Or.inl ⟨rfl, fun w' hw' => ?_⟩) hHeld ?_
          · go_simp
          simp only [List.getElem_toArray, List.getElem_cons_succ, List.getElem_cons_zero, Act.put, List.setIfInBounds_toArray, List.set_cons_zero, List.set_cons_succ]
          refine wpAnyH_take (i := 20) rfl (by kernel_rfl) (by kernel_rfl) (by kernel_rfl) (fun _ _ _ h => h) (yieldsIf_load_mid (by rfl) _ _ rfl w5.heap.size 0 rfl [.int .i64 3, .string ⟨#[97]⟩, .slice yo2 yn2 yc2, .slice none 0 0, .int .i64 0] _ (fun w' hw' => row_range (Below.row hw' YC9.out)) Try.underlying28 rfl info28) hHeld ?_
          simp only [List.getElem_toArray, List.getElem_cons_succ, List.getElem_cons_zero, Act.put, List.setIfInBounds_toArray, List.set_cons_zero, List.set_cons_succ]
          refine wpAnyH_ready (rs := [21]) (by kernel_rfl) (by simp) ?_
          refine (AllReadyH.cons rfl (fun K hK => ?_) AllReadyH.nil)
          go_simp
          refine (FIS.out _ hHeld).mono ?_
          rintro e w5' ⟨rfl, hb⟩
          have hS := Below.trans hHeld (hb.mono hHeld.size)
          refine hK.out _ _ hS (fun hHeld => ?_)
          clear hK K hb hS
          try simp only [List.getElem_toArray, List.getElem_cons_succ, List.getElem_cons_zero, Act.put, List.setIfInBounds_toArray, List.set_cons_zero, List.set_cons_succ]
          refine wpAnyH_take (i := 22) (v := Value.bool true) rfl (by kernel_rfl) (by kernel_rfl) (by kernel_rfl) (fun _ _ _ h => h) (Or.inl ⟨rfl, fun w' hw' => ?_⟩) hHeld ?_
          · go_simp
          simp only [List.getElem_toArray, List.getElem_cons_succ, List.getElem_cons_zero, Act.put, List.setIfInBounds_toArray, List.set_cons_zero, List.set_cons_succ]
          refine wpAnyH_take (i := 23) (v := Value.bool true) rfl (by kernel_rfl) (by kernel_rfl) (by kernel_rfl) (fun _ _ _ h => h) (Or.inl ⟨rfl, fun w' hw' => ?_⟩) hHeld ?_
          · go_simp
          simp only [List.getElem_toArray, List.getElem_cons_succ, List.getElem_cons_zero, Act.put, List.setIfInBounds_toArray, List.set_cons_zero, List.set_cons_succ]
          refine wpAnyH_done (by kernel_rfl) ?_ _
          refine NoPanic.normal ?_
          have HS := Lib.hid hHeld
          clear hHeld
          go_wp2
          go_ret
          exact ⟨rfl, FB.out.trans (HS.out.mono FB.out.size)⟩
        | true =>
          have HQ : Hid ((ms == (ms.set i b).set k a) = false) := HQ1.out
          have FXY : Hid (∀ w', Below WS.heap.size WS w' → Calls Try.prog 19 #[.agg #[.int .i64 3, .string ⟨#[97]⟩, .slice xo xn xc, .slice none 0 0, .int .i64 0], .agg #[.int .i64 3, .string ⟨#[97]⟩, .slice yo2 yn2 yc2, .slice none 0 0, .int .i64 0]] w' (RetBool false w')) := fun w' hb => by
            have := same_any 1 (by decide) (.mk 3 ⟨#[97]⟩ ms [] 0) (.mk 3 ⟨#[97]⟩ (ms ++ [5]) [] 0) (by simp [Dt.size, Dt.sizes]) _ _ _ _ w' (sym_at (XA9.out.keeps (Keeps.of_below hb))) (sym_at (YA9.out.keeps (Keeps.of_below hb)))
            rw [same_mk, ne_snoc] at this
            simpa using this
          have FXZ : Hid (∀ w', Below WS.heap.size WS w' → Calls Try.prog 19 #[.agg #[.int .i64 3, .string ⟨#[97]⟩, .slice xo xn xc, .slice none 0 0, .int .i64 0], .agg #[.int .i64 3, .string ⟨#[97]⟩, .slice (some ⟨gz, 0, none⟩) ms.length zc, .slice none 0 0, .int .i64 0]] w' (RetBool false w')) := fun w' hb => by
            have := same_any 1 (by decide) (.mk 3 ⟨#[97]⟩ ms [] 0) (.mk 3 ⟨#[97]⟩ ((ms.set i b).set k a) [] 0) (by simp [Dt.size, Dt.sizes]) _ _ _ _ w' (sym_at (XA9.out.keeps (Keeps.of_below hb))) (sym_at (ZA9.out.keeps (Keeps.of_below hb)))
            rw [same_mk, HQ.out] at this
            simpa [Dt.sames] using this
          have FPX : Hid (∀ w', Below WS.heap.size WS w' → Calls Try.prog 15 #[.agg #[.int .i64 3, .string ⟨#[97]⟩, .slice xo xn xc, .slice none 0 0, .int .i64 0]] w' (RetCs #[.int .i64 3, .string ⟨#[97]⟩, .slice none 0 0, .slice none 0 0, .int .i64 0] w')) := fun w' _ => plain_leaf 3 ⟨#[97]⟩ (.slice xo xn xc) 0 rfl w'
          have FPY : Hid (∀ w', Below WS.heap.size WS w' → Calls Try.prog 15 #[.agg #[.int .i64 3, .string ⟨#[97]⟩, .slice yo2 yn2 yc2, .slice none 0 0, .int .i64 0]] w' (RetCs #[.int .i64 3, .string ⟨#[97]⟩, .slice none 0 0, .slice none 0 0, .int .i64 0] w')) := fun w' _ => plain_leaf 3 ⟨#[97]⟩ (.slice yo2 yn2 yc2) 0 rfl w'
          have FPP : Hid (∀ w', Below WS.heap.size WS w' → Calls Try.prog 19 #[.agg #[.int .i64 3, .string ⟨#[97]⟩, .slice none 0 0, .slice none 0 0, .int .i64 0], .agg #[.int .i64 3, .string ⟨#[97]⟩, .slice none 0 0, .slice none 0 0, .int .i64 0]] w' (RetBool true w')) := fun w' _ => same_leaf 3 3 ⟨#[97]⟩ 0 0 w' true rfl
          have FIS : Hid (∀ w', Below WS.heap.size WS w' → Calls Try.prog 24 #[.agg #[.int .i64 3, .string ⟨#[97]⟩, .slice yo2 yn2 yc2, .slice none 0 0, .int .i64 0], .string ⟨#[97]⟩] w' (RetBool true w')) := fun w' _ => is_any 3 ⟨#[97]⟩ ⟨#[97]⟩ (.slice yo2 yn2 yc2) (.slice none 0 0) 0 true true rfl (by simp) rfl rfl w'
          refine wp_region_noPanic ?_
          refine wp_region_held_drew (S := Below WS.heap.size WS) (by kernel_rfl) ((Below.refl _ _).trans ⟨rfl, rfl, rfl, Nat.le_refl _, fun _ _ => rfl⟩) (fun hHeld => ?_)
          refine wpAnyH_take (i := 0) rfl (by kernel_rfl) (by kernel_rfl) (by kernel_rfl) (fun _ _ _ h => h) (yieldsIf_load_mid (by rfl) _ _ rfl w2.heap.size 0 rfl [.int .i64 3, .string ⟨#[97]⟩, .slice xo xn xc, .slice none 0 0, .int .i64 0] _ (fun w' hw' => row_range (Below.row hw' XC9.out)) Try.underlying28 rfl info28) hHeld ?_
          simp only [List.getElem_toArray, List.getElem_cons_succ, List.getElem_cons_zero, Act.put, List.setIfInBounds_toArray, List.set_cons_zero, List.set_cons_succ]
          refine wpAnyH_take (i := 1) rfl (by kernel_rfl) (by kernel_rfl) (by kernel_rfl) (fun _ _ _ h => h) (yieldsIf_load_mid (by rfl) _ _ rfl w5.heap.size 0 rfl [.int .i64 3, .string ⟨#[97]⟩, .slice yo2 yn2 yc2, .slice none 0 0, .int .i64 0] _ (fun w' hw' => row_range (Below.row hw' YC9.out)) Try.underlying28 rfl info28) hHeld ?_
          simp only [List.getElem_toArray, List.getElem_cons_succ, List.getElem_cons_zero, Act.put, List.setIfInBounds_toArray, List.set_cons_zero, List.set_cons_succ]
          refine wpAnyH_ready (rs := [2]) (by kernel_rfl) (by simp) ?_
          refine (AllReadyH.cons rfl (fun K hK => ?_) AllReadyH.nil)
          go_simp
          refine (FXY.out _ hHeld).mono ?_
          rintro e w5' ⟨rfl, hb⟩
          have hS := Below.trans hHeld (hb.mono hHeld.size)
          refine hK.out _ _ hS (fun hHeld => ?_)
          clear hK K hb hS
          try simp only [List.getElem_toArray, List.getElem_cons_succ, List.getElem_cons_zero, Act.put, List.setIfInBounds_toArray, List.set_cons_zero, List.set_cons_succ]
          refine wpAnyH_take (i := 3) (v := Value.bool true) rfl (by kernel_rfl) (by kernel_rfl) (by kernel_rfl) (fun _ _ _ h => h) (Or.inl ⟨rfl, fun w' hw' => ?_⟩) hHeld ?_
          · go_simp
          simp only [List.getElem_toArray, List.getElem_cons_succ, List.getElem_cons_zero, Act.put, List.setIfInBounds_toArray, List.set_cons_zero, List.set_cons_succ]
          refine wpAnyH_take (i := 4) (v := Value.bool true) rfl (by kernel_rfl) (by kernel_rfl) (by kernel_rfl) (fun _ _ _ h => h) (Or.inl ⟨rfl, fun w' hw' => ?_⟩) hHeld ?_
          · go_simp
          simp only [List.getElem_toArray, List.getElem_cons_succ, List.getElem_cons_zero, Act.put, List.setIfInBounds_toArray, List.set_cons_zero, List.set_cons_succ]
          refine wpAnyH_take (i := 5) rfl (by kernel_rfl) (by kernel_rfl) (by kernel_rfl) (fun _ _ _ h => h) (yieldsIf_load_mid (by rfl) _ _ rfl w2.heap.size 0 rfl [.int .i64 3, .string ⟨#[97]⟩, .slice xo xn xc, .slice none 0 0, .int .i64 0] _ (fun w' hw' => row_range (Below.row hw' XC9.out)) Try.underlying28 rfl info28) hHeld ?_
          simp only [List.getElem_toArray, List.getElem_cons_succ, List.getElem_cons_zero, Act.put, List.setIfInBounds_toArray, List.set_cons_zero, List.set_cons_succ]
          refine wpAnyH_take (i := 6) rfl (by kernel_rfl) (by kernel_rfl) (by kernel_rfl) (fun _ _ _ h => h) (yieldsIf_load_mid (by rfl) _ _ rfl w7.heap.size 0 rfl [.int .i64 3, .string ⟨#[97]⟩, .slice (some ⟨gz, 0, none⟩) ms.length zc, .slice none 0 0, .int .i64 0] _ (fun w' hw' => row_range (Below.row hw' ZC9.out)) Try.underlying28 rfl info28) hHeld ?_
          simp only [List.getElem_toArray, List.getElem_cons_succ, List.getElem_cons_zero, Act.put, List.setIfInBounds_toArray, List.set_cons_zero, List.set_cons_succ]
          refine wpAnyH_take (i := 8) (v := Value.bool true) rfl (by kernel_rfl) (by kernel_rfl) (by kernel_rfl) (fun _ _ _ h => h) (Or.inl ⟨rfl, fun w' hw' => ?_⟩) hHeld ?_
          · go_simp
          simp only [List.getElem_toArray, List.getElem_cons_succ, List.getElem_cons_zero, Act.put, List.setIfInBounds_toArray, List.set_cons_zero, List.set_cons_succ]
          refine wpAnyH_take (i := 9) (v := Value.bool false) rfl (by kernel_rfl) (by kernel_rfl) (by kernel_rfl) (fun _ _ _ h => h) (Or.inl ⟨rfl, fun w' hw' => ?_⟩) hHeld ?_
          · go_simp
          simp only [List.getElem_toArray, List.getElem_cons_succ, List.getElem_cons_zero, Act.put, List.setIfInBounds_toArray, List.set_cons_zero, List.set_cons_succ]
          refine wpAnyH_ready (rs := [7]) (by kernel_rfl) (by simp) ?_
          refine (AllReadyH.cons rfl (fun K hK => ?_) AllReadyH.nil)
          go_simp
          refine (FXZ.out _ hHeld).mono ?_
          rintro e w5' ⟨rfl, hb⟩
          have hS := Below.trans hHeld (hb.mono hHeld.size)
          refine hK.out _ _ hS (fun hHeld => ?_)
          clear hK K hb hS
          try simp only [List.getElem_toArray, List.getElem_cons_succ, List.getElem_cons_zero, Act.put, List.setIfInBounds_toArray, List.set_cons_zero, List.set_cons_succ]
          refine wpAnyH_take (i := 10) (v := Value.bool true) rfl (by kernel_rfl) (by kernel_rfl) (by kernel_rfl) (fun _ _ _ h => h) (Or.inl ⟨rfl, fun w' hw' => ?_⟩) hHeld ?_
          · go_simp
          simp only [List.getElem_toArray, List.getElem_cons_succ, List.getElem_cons_zero, Act.put, List.setIfInBounds_toArray, List.set_cons_zero, List.set_cons_succ]
          refine wpAnyH_take (i := 11) (v := Value.bool true) rfl (by kernel_rfl) (by kernel_rfl) (by kernel_rfl) (fun _ _ _ h => h) (Or.inl ⟨rfl, fun w' hw' => ?_⟩) hHeld ?_
          · go_simp
          simp only [List.getElem_toArray, List.getElem_cons_succ, List.getElem_cons_zero, Act.put, List.setIfInBounds_toArray, List.set_cons_zero, List.set_cons_succ]
          refine wpAnyH_take (i := 12) (v := Value.bool true) rfl (by kernel_rfl) (by kernel_rfl) (by kernel_rfl) (fun _ _ _ h => h) (Or.inl ⟨rfl, fun w' hw' => ?_⟩) hHeld ?_
          · go_simp
          simp only [List.getElem_toArray, List.getElem_cons_succ, List.getElem_cons_zero, Act.put, List.setIfInBounds_toArray, List.set_cons_zero, List.set_cons_succ]
          refine wpAnyH_take (i := 13) rfl (by kernel_rfl) (by kernel_rfl) (by kernel_rfl) (fun _ _ _ h => h) (yieldsIf_load_mid (by rfl) _ _ rfl w2.heap.size 0 rfl [.int .i64 3, .string ⟨#[97]⟩, .slice xo xn xc, .slice none 0 0, .int .i64 0] _ (fun w' hw' => row_range (Below.row hw' XC9.out)) Try.underlying28 rfl info28) hHeld ?_
          simp only [List.getElem_toArray, List.getElem_cons_succ, List.getElem_cons_zero, Act.put, List.setIfInBounds_toArray, List.set_cons_zero, List.set_cons_succ]
          refine wpAnyH_take (i := 15) rfl (by kernel_rfl) (by kernel_rfl) (by kernel_rfl) (fun _ _ _ h => h) (yieldsIf_load_mid (by rfl) _ _ rfl w5.heap.size 0 rfl [.int .i64 3, .string ⟨#[97]⟩, .slice yo2 yn2 yc2, .slice none 0 0, .int .i64 0] _ (fun w' hw' => row_range (Below.row hw' YC9.out)) Try.underlying28 rfl info28) hHeld ?_
          simp only [List.getElem_toArray, List.getElem_cons_succ, List.getElem_cons_zero, Act.put, List.setIfInBounds_toArray, List.set_cons_zero, List.set_cons_succ]
          refine wpAnyH_ready (rs := [14]) (by kernel_rfl) (by simp) ?_
          refine (AllReadyH.cons rfl (fun K hK => ?_) AllReadyH.nil)
          go_simp
          refine (FPX.out _ hHeld).mono ?_
          rintro e w5' ⟨rfl, hb⟩
          have hS := Below.trans hHeld (hb.mono hHeld.size)
          refine hK.out _ _ hS (fun hHeld => ?_)
          clear hK K hb hS
          try simp only [List.getElem_toArray, List.getElem_cons_succ, List.getElem_cons_zero, Act.put, List.setIfInBounds_toArray, List.set_cons_zero, List.set_cons_succ]
          refine wpAnyH_ready (rs := [16]) (by kernel_rfl) (by simp) ?_
          refine (AllReadyH.cons rfl (fun K hK => ?_) AllReadyH.nil)
          go_simp
          refine (FPY.out _ hHeld).mono ?_
          rintro e w5' ⟨rfl, hb⟩
          have hS := Below.trans hHeld (hb.mono hHeld.size)
          refine hK.out _ _ hS (fun hHeld => ?_)
          clear hK K hb hS
          try simp only [List.getElem_toArray, List.getElem_cons_succ, List.getElem_cons_zero, Act.put, List.setIfInBounds_toArray, List.set_cons_zero, List.set_cons_succ]
          refine wpAnyH_ready (rs := [17]) (by kernel_rfl) (by simp) ?_
          refine (AllReadyH.cons rfl (fun K hK => ?_) AllReadyH.nil)
          go_simp
          refine (FPP.out _ hHeld).mono ?_
          rintro e w5' ⟨rfl, hb⟩
          have hS := Below.trans hHeld (hb.mono hHeld.size)
          refine hK.out _ _ hS (fun hHeld => ?_)
          clear hK K hb hS
          try simp only [List.getElem_toArray, List.getElem_cons_succ, List.getElem_cons_zero, Act.put, List.setIfInBounds_toArray, List.set_cons_zero, List.set_cons_succ]
          refine wpAnyH_take (i := 18) (v := Value.bool true) rfl (by kernel_rfl) (by kernel_rfl) (by kernel_rfl) (fun _ _ _ h => h) (Or.inl ⟨rfl, fun w' hw' => ?_⟩) hHeld ?_
          · go_simp
          simp only [List.getElem_toArray, List.getElem_cons_succ, List.getElem_cons_zero, Act.put, List.setIfInBounds_toArray, List.set_cons_zero, List.set_cons_succ]
          refine wpAnyH_take (i := 19) (v := Value.bool true) rfl (by kernel_rfl) (by kernel_rfl) (by kernel_rfl) (fun _ _ _ h => h) (Or.inl ⟨rfl, fun w' hw' => ?_⟩) hHeld ?_
          · go_simp
          simp only [List.getElem_toArray, List.getElem_cons_succ, List.getElem_cons_zero, Act.put, List.setIfInBounds_toArray, List.set_cons_zero, List.set_cons_succ]
          refine wpAnyH_take (i := 20) rfl (by kernel_rfl) (by kernel_rfl) (by kernel_rfl) (fun _ _ _ h => h) (yieldsIf_load_mid (by rfl) _ _ rfl w5.heap.size 0 rfl [.int .i64 3, .string ⟨#[97]⟩, .slice yo2 yn2 yc2, .slice none 0 0, .int .i64 0] _ (fun w' hw' => row_range (Below.row hw' YC9.out)) Try.underlying28 rfl info28) hHeld ?_
          simp only [List.getElem_toArray, List.getElem_cons_succ, List.getElem_cons_zero, Act.put, List.setIfInBounds_toArray, List.set_cons_zero, List.set_cons_succ]
          refine wpAnyH_ready (rs := [21]) (by kernel_rfl) (by simp) ?_
          refine (AllReadyH.cons rfl (fun K hK => ?_) AllReadyH.nil)
          go_simp
          refine (FIS.out _ hHeld).mono ?_
          rintro e w5' ⟨rfl, hb⟩
          have hS := Below.trans hHeld (hb.mono hHeld.size)
          refine hK.out _ _ hS (fun hHeld => ?_)
          clear hK K hb hS
          try simp only [List.getElem_toArray, List.getElem_cons_succ, List.getElem_cons_zero, Act.put, List.setIfInBounds_toArray, List.set_cons_zero, List.set_cons_succ]
          refine wpAnyH_take (i := 22) (v := Value.bool true) rfl (by kernel_rfl) (by kernel_rfl) (by kernel_rfl) (fun _ _ _ h => h) (Or.inl ⟨rfl, fun w' hw' => ?_⟩) hHeld ?_
          · go_simp
          simp only [List.getElem_toArray, List.getElem_cons_succ, List.getElem_cons_zero, Act.put, List.setIfInBounds_toArray, List.set_cons_zero, List.set_cons_succ]
          refine wpAnyH_take (i := 23) (v := Value.bool true) rfl (by kernel_rfl) (by kernel_rfl) (by kernel_rfl) (fun _ _ _ h => h) (Or.inl ⟨rfl, fun w' hw' => ?_⟩) hHeld ?_
          · go_simp
          simp only [List.getElem_toArray, List.getElem_cons_succ, List.getElem_cons_zero, Act.put, List.setIfInBounds_toArray, List.set_cons_zero, List.set_cons_succ]
          refine wpAnyH_done (by kernel_rfl) ?_ _
          refine NoPanic.normal ?_
          have HS := Lib.hid hHeld
          clear hHeld
          go_wp2
          go_ret
          exact ⟨rfl, FB.out.trans (HS.out.mono FB.out.size)⟩
      · skip
        have cx := CA.out
        go_simp
        refine hK.out _ _ hHeld (fun hHeld => ?_)
        clear hK K cx
        try simp only [List.getElem_toArray, List.getElem_cons_succ, List.getElem_cons_zero, Act.put, List.setIfInBounds_toArray, List.set_cons_zero, List.set_cons_succ]
        refine wpAnyH_ready (rs := [12]) (by kernel_rfl) (by simp) ?_
        refine (AllReadyH.cons rfl (fun K hK => ?_) AllReadyH.nil)
        have cx := CB.out
        go_simp
        refine hK.out _ _ hHeld (fun hHeld => ?_)
        clear hK K cx
        try simp only [List.getElem_toArray, List.getElem_cons_succ, List.getElem_cons_zero, Act.put, List.setIfInBounds_toArray, List.set_cons_zero, List.set_cons_succ]
        refine wpAnyH_take (i := 18) (v := Value.pointer (some ⟨gz, i, none⟩)) rfl (by kernel_rfl) (by kernel_rfl) (by kernel_rfl) (fun _ _ _ h => h) (Or.inl ⟨rfl, fun w' hw' => ?_⟩) hHeld ?_
        · go_simp
        simp only [List.getElem_toArray, List.getElem_cons_succ, List.getElem_cons_zero, Act.put, List.setIfInBounds_toArray, List.set_cons_zero, List.set_cons_succ]
        refine wpAnyH_ready (rs := [19]) (by kernel_rfl) (by simp) ?_
        refine (AllReadyH.cons rfl (fun K hK => ?_) AllReadyH.nil)
        have cx := CA.out
        have fx := FZ.out i
        go_simp
        refine hK.out _ _ T1.out (fun hHeld => ?_)
        clear hK K cx fx
        try simp only [List.getElem_toArray, List.getElem_cons_succ, List.getElem_cons_zero, Act.put, List.setIfInBounds_toArray, List.set_cons_zero, List.set_cons_succ]
        refine wpAnyH_take (i := 20) (v := Value.pointer (some ⟨gz, k, none⟩)) rfl (by kernel_rfl) (by kernel_rfl) (by kernel_rfl) (fun _ _ _ h => h) (Or.inl ⟨rfl, fun w' hw' => ?_⟩) hHeld ?_
        · go_simp
        simp only [List.getElem_toArray, List.getElem_cons_succ, List.getElem_cons_zero, Act.put, List.setIfInBounds_toArray, List.set_cons_zero, List.set_cons_succ]
        refine wpAnyH_ready (rs := [21]) (by kernel_rfl) (by simp) ?_
        refine (AllReadyH.cons rfl (fun K hK => ?_) AllReadyH.nil)
        have cx := C2.out
        have fx := F2.out
        go_simp
        refine hK.out _ _ T2.out (fun hHeld => ?_)
        clear hK K cx fx
        try simp only [List.getElem_toArray, List.getElem_cons_succ, List.getElem_cons_zero, Act.put, List.setIfInBounds_toArray, List.set_cons_zero, List.set_cons_succ]
        refine wpAnyH_done (by kernel_rfl) ?_ _
        refine NoPanic.normal ?_
        clear hHeld
        generalize (WD.setCell ⟨gz, i, none⟩ (.int .i64 b)).setCell ⟨gz, k, none⟩ (.int .i64 a) = WS at T2 ZAS BSS ZCS CIS CKS ⊢
        have XC9' := Lib.hid ((BSS.out.block _ (Nat.lt_of_lt_of_le hx3 B6.out.size)).trans XC9.out)
        have YC9' := Lib.hid ((BSS.out.block _ hx6).trans YC9.out)
        have XA9' := Lib.hid (XA9.out.belowB BSS.out (fun g hg => Nat.lt_of_lt_of_le hg.2 B6.out.size))
        have YA9' := Lib.hid (YA9.out.belowB BSS.out (fun g hg => hg.2))
        have hw6 : w.heap.size ≤ W6.heap.size := Nat.le_trans (Nat.le_trans B1.out.size B3.out.size) B6.out.size
        have FB := Lib.hid (BW.out.trans (BSS.out.mono hw6))
        clear XC9 YC9 XA9 YA9
        have cz := T2.out
        have ci := CIS.out
        have ck := CKS.out
        obtain ⟨tb, htb⟩ : ∃ tb, (b != a) = tb := ⟨_, rfl⟩
        have HQ1 : Hid ((ms == (ms.set i b).set k a) = !tb) := by show _ = _; rw [← htb]; exact HQ0.out
        go_wp2_with fail
        go_quiet (fail)
        go_wp2_with fail
        have XC9 := Lib.hid XC9'.out
        have YC9 := Lib.hid YC9'.out
        have XA9 := Lib.hid XA9'.out
        have YA9 := Lib.hid YA9'.out
        have ZC9 := Lib.hid ZCS.out
        have ZA9 := Lib.hid ZAS.out
        clear XC9' YC9' XA9' YA9' ZCS ZAS htb cz ci ck CIS CKS T2 T1 C2 F2 CA CB HWD HQ0
        cases tb with
        | false =>
          have HQ : Hid ((ms == (ms.set i b).set k a) = true) := HQ1.out
          have FXY : Hid (∀ w', Below WS.heap.size WS w' → Calls Try.prog 19 #[.agg #[.int .i64 3, .string ⟨#[97]⟩, .slice xo xn xc, .slice none 0 0, .int .i64 0], .agg #[.int .i64 3, .string ⟨#[97]⟩, .slice yo2 yn2 yc2, .slice none 0 0, .int .i64 0]] w' (RetBool false w')) := fun w' hb => by
            have := same_any 1 (by decide) (.mk 3 ⟨#[97]⟩ ms [] 0) (.mk 3 ⟨#[97]⟩ (ms ++ [5]) [] 0) (by simp [Dt.size, Dt.sizes]) _ _ _ _ w' (sym_at (XA9.out.keeps (Keeps.of_below hb))) (sym_at (YA9.out.keeps (Keeps.of_below hb)))
            rw [same_mk, ne_snoc] at this
            simpa using this
          have FXZ : Hid (∀ w', Below WS.heap.size WS w' → Calls Try.prog 19 #[.agg #[.int .i64 3, .string ⟨#[97]⟩, .slice xo xn xc, .slice none 0 0, .int .i64 0], .agg #[.int .i64 3, .string ⟨#[97]⟩, .slice (some ⟨gz, 0, none⟩) ms.length zc, .slice none 0 0, .int .i64 0]] w' (RetBool true w')) := fun w' hb => by
            have := same_any 1 (by decide) (.mk 3 ⟨#[97]⟩ ms [] 0) (.mk 3 ⟨#[97]⟩ ((ms.set i b).set k a) [] 0) (by simp [Dt.size, Dt.sizes]) _ _ _ _ w' (sym_at (XA9.out.keeps (Keeps.of_below hb))) (sym_at (ZA9.out.keeps (Keeps.of_below hb)))
            rw [same_mk, HQ.out] at this
            simpa [Dt.sames] using this
          have FPX : Hid (∀ w', Below WS.heap.size WS w' → Calls Try.prog 15 #[.agg #[.int .i64 3, .string ⟨#[97]⟩, .slice xo xn xc, .slice none 0 0, .int .i64 0]] w' (RetCs #[.int .i64 3, .string ⟨#[97]⟩, .slice none 0 0, .slice none 0 0, .int .i64 0] w')) := fun w' _ => plain_leaf 3 ⟨#[97]⟩ (.slice xo xn xc) 0 rfl w'
          have FPY : Hid (∀ w', Below WS.heap.size WS w' → Calls Try.prog 15 #[.agg #[.int .i64 3, .string ⟨#[97]⟩, .slice yo2 yn2 yc2, .slice none 0 0, .int .i64 0]] w' (RetCs #[.int .i64 3, .string ⟨#[97]⟩, .slice none 0 0, .slice none 0 0, .int .i64 0] w')) := fun w' _ => plain_leaf 3 ⟨#[97]⟩ (.slice yo2 yn2 yc2) 0 rfl w'
          have FPP : Hid (∀ w', Below WS.heap.size WS w' → Calls Try.prog 19 #[.agg #[.int .i64 3, .string ⟨#[97]⟩, .slice none 0 0, .slice none 0 0, .int .i64 0], .agg #[.int .i64 3, .string ⟨#[97]⟩, .slice none 0 0, .slice none 0 0, .int .i64 0]] w' (RetBool true w')) := fun w' _ => same_leaf 3 3 ⟨#[97]⟩ 0 0 w' true rfl
          have FIS : Hid (∀ w', Below WS.heap.size WS w' → Calls Try.prog 24 #[.agg #[.int .i64 3, .string ⟨#[97]⟩, .slice yo2 yn2 yc2, .slice none 0 0, .int .i64 0], .string ⟨#[97]⟩] w' (RetBool true w')) := fun w' _ => is_any 3 ⟨#[97]⟩ ⟨#[97]⟩ (.slice yo2 yn2 yc2) (.slice none 0 0) 0 true true rfl (by simp) rfl rfl w'
          refine wp_region_noPanic ?_
          refine wp_region_held_drew (S := Below WS.heap.size WS) (by kernel_rfl) ((Below.refl _ _).trans ⟨rfl, rfl, rfl, Nat.le_refl _, fun _ _ => rfl⟩) (fun hHeld => ?_)
          refine wpAnyH_take (i := 0) rfl (by kernel_rfl) (by kernel_rfl) (by kernel_rfl) (fun _ _ _ h => h) (yieldsIf_load_mid (by rfl) _ _ rfl w2.heap.size 0 rfl [.int .i64 3, .string ⟨#[97]⟩, .slice xo xn xc, .slice none 0 0, .int .i64 0] _ (fun w' hw' => row_range (Below.row hw' XC9.out)) Try.underlying28 rfl info28) hHeld ?_
          simp only [List.getElem_toArray, List.getElem_cons_succ, List.getElem_cons_zero, Act.put, List.setIfInBounds_toArray, List.set_cons_zero, List.set_cons_succ]
          refine wpAnyH_take (i := 1) rfl (by kernel_rfl) (by kernel_rfl) (by kernel_rfl) (fun _ _ _ h => h) (yieldsIf_load_mid (by rfl) _ _ rfl w5.heap.size 0 rfl [.int .i64 3, .string ⟨#[97]⟩, .slice yo2 yn2 yc2, .slice none 0 0, .int .i64 0] _ (fun w' hw' => row_range (Below.row hw' YC9.out)) Try.underlying28 rfl info28) hHeld ?_
          simp only [List.getElem_toArray, List.getElem_cons_succ, List.getElem_cons_zero, Act.put, List.setIfInBounds_toArray, List.set_cons_zero, List.set_cons_succ]
          refine wpAnyH_ready (rs := [2]) (by kernel_rfl) (by simp) ?_
          refine (AllReadyH.cons rfl (fun K hK => ?_) AllReadyH.nil)
          go_simp
          refine (FXY.out _ hHeld).mono ?_
          rintro e w5' ⟨rfl, hb⟩
          have hS := Below.trans hHeld (hb.mono hHeld.size)
          refine hK.out _ _ hS (fun hHeld => ?_)
          clear hK K hb hS
          try simp only [List.getElem_toArray, List.getElem_cons_succ, List.getElem_cons_zero, Act.put, List.setIfInBounds_toArray, List.set_cons_zero, List.set_cons_succ]
          refine wpAnyH_take (i := 3) (v := Value.bool true) rfl (by kernel_rfl) (by kernel_rfl) (by kernel_rfl) (fun _ _ _ h => h) (Or.inl ⟨rfl, fun w' hw' => ?_⟩) hHeld ?_
          · go_simp
          simp only [List.getElem_toArray, List.getElem_cons_succ, List.getElem_cons_zero, Act.put, List.setIfInBounds_toArray, List.set_cons_zero, List.set_cons_succ]
          refine wpAnyH_take (i := 4) (v := Value.bool true) rfl (by kernel_rfl) (by kernel_rfl) (by kernel_rfl) (fun _ _ _ h => h) (Or.inl ⟨rfl, fun w' hw' => ?_⟩) hHeld ?_
          · go_simp
          simp only [List.getElem_toArray, List.getElem_cons_succ, List.getElem_cons_zero, Act.put, List.setIfInBounds_toArray, List.set_cons_zero, List.set_cons_succ]
          refine wpAnyH_take (i := 5) rfl (by kernel_rfl) (by kernel_rfl) (by kernel_rfl) (fun _ _ _ h => h) (yieldsIf_load_mid (by rfl) _ _ rfl w2.heap.size 0 rfl [.int .i64 3, .string ⟨#[97]⟩, .slice xo xn xc, .slice none 0 0, .int .i64 0] _ (fun w' hw' => row_range (Below.row hw' XC9.out)) Try.underlying28 rfl info28) hHeld ?_
          simp only [List.getElem_toArray, List.getElem_cons_succ, List.getElem_cons_zero, Act.put, List.setIfInBounds_toArray, List.set_cons_zero, List.set_cons_succ]
          refine wpAnyH_take (i := 6) rfl (by kernel_rfl) (by kernel_rfl) (by kernel_rfl) (fun _ _ _ h => h) (yieldsIf_load_mid (by rfl) _ _ rfl w7.heap.size 0 rfl [.int .i64 3, .string ⟨#[97]⟩, .slice (some ⟨gz, 0, none⟩) ms.length zc, .slice none 0 0, .int .i64 0] _ (fun w' hw' => row_range (Below.row hw' ZC9.out)) Try.underlying28 rfl info28) hHeld ?_
          simp only [List.getElem_toArray, List.getElem_cons_succ, List.getElem_cons_zero, Act.put, List.setIfInBounds_toArray, List.set_cons_zero, List.set_cons_succ]
          refine wpAnyH_take (i := 8) (v := Value.bool false) rfl (by kernel_rfl) (by kernel_rfl) (by kernel_rfl) (fun _ _ _ h => h) (Or.inl ⟨rfl, fun w' hw' => ?_⟩) hHeld ?_
          · go_simp
          simp only [List.getElem_toArray, List.getElem_cons_succ, List.getElem_cons_zero, Act.put, List.setIfInBounds_toArray, List.set_cons_zero, List.set_cons_succ]
          refine wpAnyH_take (i := 9) (v := Value.bool true) rfl (by kernel_rfl) (by kernel_rfl) (by kernel_rfl) (fun _ _ _ h => h) (Or.inl ⟨rfl, fun w' hw' => ?_⟩) hHeld ?_
          · go_simp
          simp only [List.getElem_toArray, List.getElem_cons_succ, List.getElem_cons_zero, Act.put, List.setIfInBounds_toArray, List.set_cons_zero, List.set_cons_succ]
          refine wpAnyH_ready (rs := [7]) (by kernel_rfl) (by simp) ?_
          refine (AllReadyH.cons rfl (fun K hK => ?_) AllReadyH.nil)
          go_simp
          refine (FXZ.out _ hHeld).mono ?_
          rintro e w5' ⟨rfl, hb⟩
          have hS := Below.trans hHeld (hb.mono hHeld.size)
          refine hK.out _ _ hS (fun hHeld => ?_)
          clear hK K hb hS
          try simp only [List.getElem_toArray, List.getElem_cons_succ, List.getElem_cons_zero, Act.put, List.setIfInBounds_toArray, List.set_cons_zero, List.set_cons_succ]
          refine wpAnyH_take (i := 10) (v := Value.bool true) rfl (by kernel_rfl) (by kernel_rfl) (by kernel_rfl) (fun _ _ _ h => h) (Or.inl ⟨rfl, fun w' hw' => ?_⟩) hHeld ?_
          · go_simp
          simp only [List.getElem_toArray, List.getElem_cons_succ, List.getElem_cons_zero, Act.put, List.setIfInBounds_toArray, List.set_cons_zero, List.set_cons_succ]
          refine wpAnyH_take (i := 11) (v := Value.bool true) rfl (by kernel_rfl) (by kernel_rfl) (by kernel_rfl) (fun _ _ _ h => h) (Or.inl ⟨rfl, fun w' hw' => ?_⟩) hHeld ?_
          · go_simp
          simp only [List.getElem_toArray, List.getElem_cons_succ, List.getElem_cons_zero, Act.put, List.setIfInBounds_toArray, List.set_cons_zero, List.set_cons_succ]
          refine wpAnyH_take (i := 12) (v := Value.bool true) rfl (by kernel_rfl) (by kernel_rfl) (by kernel_rfl) (fun _ _ _ h => h) (Or.inl ⟨rfl, fun w' hw' => ?_⟩) hHeld ?_
          · go_simp
          simp only [List.getElem_toArray, List.getElem_cons_succ, List.getElem_cons_zero, Act.put, List.setIfInBounds_toArray, List.set_cons_zero, List.set_cons_succ]
          refine wpAnyH_take (i := 13) rfl (by kernel_rfl) (by kernel_rfl) (by kernel_rfl) (fun _ _ _ h => h) (yieldsIf_load_mid (by rfl) _ _ rfl w2.heap.size 0 rfl [.int .i64 3, .string ⟨#[97]⟩, .slice xo xn xc, .slice none 0 0, .int .i64 0] _ (fun w' hw' => row_range (Below.row hw' XC9.out)) Try.underlying28 rfl info28) hHeld ?_
          simp only [List.getElem_toArray, List.getElem_cons_succ, List.getElem_cons_zero, Act.put, List.setIfInBounds_toArray, List.set_cons_zero, List.set_cons_succ]
          refine wpAnyH_take (i := 15) rfl (by kernel_rfl) (by kernel_rfl) (by kernel_rfl) (fun _ _ _ h => h) (yieldsIf_load_mid (by rfl) _ _ rfl w5.heap.size 0 rfl [.int .i64 3, .string ⟨#[97]⟩, .slice yo2 yn2 yc2, .slice none 0 0, .int .i64 0] _ (fun w' hw' => row_range (Below.row hw' YC9.out)) Try.underlying28 rfl info28) hHeld ?_
          simp only [List.getElem_toArray, List.getElem_cons_succ, List.getElem_cons_zero, Act.put, List.setIfInBounds_toArray, List.set_cons_zero, List.set_cons_succ]
          refine wpAnyH_ready (rs := [14]) (by kernel_rfl) (by simp) ?_
          refine (AllReadyH.cons rfl (fun K hK => ?_) AllReadyH.nil)
          go_simp
          refine (FPX.out _ hHeld).mono ?_
          rintro e w5' ⟨rfl, hb⟩
          have hS := Below.trans hHeld (hb.mono hHeld.size)
          refine hK.out _ _ hS (fun hHeld => ?_)
          clear hK K hb hS
          try simp only [List.getElem_toArray, List.getElem_cons_succ, List.getElem_cons_zero, Act.put, List.setIfInBounds_toArray, List.set_cons_zero, List.set_cons_succ]
          refine wpAnyH_ready (rs := [16]) (by kernel_rfl) (by simp) ?_
          refine (AllReadyH.cons rfl (fun K hK => ?_) AllReadyH.nil)
          go_simp
          refine (FPY.out _ hHeld).mono ?_
          rintro e w5' ⟨rfl, hb⟩
          have hS := Below.trans hHeld (hb.mono hHeld.size)
          refine hK.out _ _ hS (fun hHeld => ?_)
          clear hK K hb hS
          try simp only [List.getElem_toArray, List.getElem_cons_succ, List.getElem_cons_zero, Act.put, List.setIfInBounds_toArray, List.set_cons_zero, List.set_cons_succ]
          refine wpAnyH_ready (rs := [17]) (by kernel_rfl) (by simp) ?_
          refine (AllReadyH.cons rfl (fun K hK => ?_) AllReadyH.nil)
          go_simp
          refine (FPP.out _ hHeld).mono ?_
          rintro e w5' ⟨rfl, hb⟩
          have hS := Below.trans hHeld (hb.mono hHeld.size)
          refine hK.out _ _ hS (fun hHeld => ?_)
          clear hK K hb hS
          try simp only [List.getElem_toArray, List.getElem_cons_succ, List.getElem_cons_zero, Act.put, List.setIfInBounds_toArray, List.set_cons_zero, List.set_cons_succ]
          refine wpAnyH_take (i := 18) (v := Value.bool true) rfl (by kernel_rfl) (by kernel_rfl) (by kernel_rfl) (fun _ _ _ h => h) (Or.inl ⟨rfl, fun w' hw' => ?_⟩) hHeld ?_
          · go_simp
          simp only [List.getElem_toArray, List.getElem_cons_succ, List.getElem_cons_zero, Act.put, List.setIfInBounds_toArray, List.set_cons_zero, List.set_cons_succ]
          refine wpAnyH_take (i := 19) (v := Value.bool true) rfl (by kernel_rfl) (by kernel_rfl) (by kernel_rfl) (fun _ _ _ h => h) (Or.inl ⟨rfl, fun w' hw' => ?_⟩) hHeld ?_
          · go_simp
          simp only [List.getElem_toArray, List.getElem_cons_succ, List.getElem_cons_zero, Act.put, List.setIfInBounds_toArray, List.set_cons_zero, List.set_cons_succ]
          refine wpAnyH_take (i := 20) rfl (by kernel_rfl) (by kernel_rfl) (by kernel_rfl) (fun _ _ _ h => h) (yieldsIf_load_mid (by rfl) _ _ rfl w5.heap.size 0 rfl [.int .i64 3, .string ⟨#[97]⟩, .slice yo2 yn2 yc2, .slice none 0 0, .int .i64 0] _ (fun w' hw' => row_range (Below.row hw' YC9.out)) Try.underlying28 rfl info28) hHeld ?_
          simp only [List.getElem_toArray, List.getElem_cons_succ, List.getElem_cons_zero, Act.put, List.setIfInBounds_toArray, List.set_cons_zero, List.set_cons_succ]
          refine wpAnyH_ready (rs := [21]) (by kernel_rfl) (by simp) ?_
          refine (AllReadyH.cons rfl (fun K hK => ?_) AllReadyH.nil)
          go_simp
          refine (FIS.out _ hHeld).mono ?_
          rintro e w5' ⟨rfl, hb⟩
          have hS := Below.trans hHeld (hb.mono hHeld.size)
          refine hK.out _ _ hS (fun hHeld => ?_)
          clear hK K hb hS
          try simp only [List.getElem_toArray, List.getElem_cons_succ, List.getElem_cons_zero, Act.put, List.setIfInBounds_toArray, List.set_cons_zero, List.set_cons_succ]
          refine wpAnyH_take (i := 22) (v := Value.bool true) rfl (by kernel_rfl) (by kernel_rfl) (by kernel_rfl) (fun _ _ _ h => h) (Or.inl ⟨rfl, fun w' hw' => ?_⟩) hHeld ?_
          · go_simp
          simp only [List.getElem_toArray, List.getElem_cons_succ, List.getElem_cons_zero, Act.put, List.setIfInBounds_toArray, List.set_cons_zero, List.set_cons_succ]
          refine wpAnyH_take (i := 23) (v := Value.bool true) rfl (by kernel_rfl) (by kernel_rfl) (by kernel_rfl) (fun _ _ _ h => h) (Or.inl ⟨rfl, fun w' hw' => ?_⟩) hHeld ?_
          · go_simp
          simp only [List.getElem_toArray, List.getElem_cons_succ, List.getElem_cons_zero, Act.put, List.setIfInBounds_toArray, List.set_cons_zero, List.set_cons_succ]
          refine wpAnyH_done (by kernel_rfl) ?_ _
          refine NoPanic.normal ?_
          have HS := Lib.hid hHeld
          clear hHeld
          go_wp2
          go_ret
          exact ⟨rfl, FB.out.trans (HS.out.mono FB.out.size)⟩
        | true =>
          have HQ : Hid ((ms == (ms.set i b).set k a) = false) := HQ1.out
          have FXY : Hid (∀ w', Below WS.heap.size WS w' → Calls Try.prog 19 #[.agg #[.int .i64 3, .string ⟨#[97]⟩, .slice xo xn xc, .slice none 0 0, .int .i64 0], .agg #[.int .i64 3, .string ⟨#[97]⟩, .slice yo2 yn2 yc2, .slice none 0 0, .int .i64 0]] w' (RetBool false w')) := fun w' hb => by
            have := same_any 1 (by decide) (.mk 3 ⟨#[97]⟩ ms [] 0) (.mk 3 ⟨#[97]⟩ (ms ++ [5]) [] 0) (by simp [Dt.size, Dt.sizes]) _ _ _ _ w' (sym_at (XA9.out.keeps (Keeps.of_below hb))) (sym_at (YA9.out.keeps (Keeps.of_below hb)))
            rw [same_mk, ne_snoc] at this
            simpa using this
          have FXZ : Hid (∀ w', Below WS.heap.size WS w' → Calls Try.prog 19 #[.agg #[.int .i64 3, .string ⟨#[97]⟩, .slice xo xn xc, .slice none 0 0, .int .i64 0], .agg #[.int .i64 3, .string ⟨#[97]⟩, .slice (some ⟨gz, 0, none⟩) ms.length zc, .slice none 0 0, .int .i64 0]] w' (RetBool false w')) := fun w' hb => by
            have := same_any 1 (by decide) (.mk 3 ⟨#[97]⟩ ms [] 0) (.mk 3 ⟨#[97]⟩ ((ms.set i b).set k a) [] 0) (by simp [Dt.size, Dt.sizes]) _ _ _ _ w' (sym_at (XA9.out.keeps (Keeps.of_below hb))) (sym_at (ZA9.out.keeps (Keeps.of_below hb)))
            rw [same_mk, HQ.out] at this
            simpa [Dt.sames] using this
          have FPX : Hid (∀ w', Below WS.heap.size WS w' → Calls Try.prog 15 #[.agg #[.int .i64 3, .string ⟨#[97]⟩, .slice xo xn xc, .slice none 0 0, .int .i64 0]] w' (RetCs #[.int .i64 3, .string ⟨#[97]⟩, .slice none 0 0, .slice none 0 0, .int .i64 0] w')) := fun w' _ => plain_leaf 3 ⟨#[97]⟩ (.slice xo xn xc) 0 rfl w'
          have FPY : Hid (∀ w', Below WS.heap.size WS w' → Calls Try.prog 15 #[.agg #[.int .i64 3, .string ⟨#[97]⟩, .slice yo2 yn2 yc2, .slice none 0 0, .int .i64 0]] w' (RetCs #[.int .i64 3, .string ⟨#[97]⟩, .slice none 0 0, .slice none 0 0, .int .i64 0] w')) := fun w' _ => plain_leaf 3 ⟨#[97]⟩ (.slice yo2 yn2 yc2) 0 rfl w'
          have FPP : Hid (∀ w', Below WS.heap.size WS w' → Calls Try.prog 19 #[.agg #[.int .i64 3, .string ⟨#[97]⟩, .slice none 0 0, .slice none 0 0, .int .i64 0], .agg #[.int .i64 3, .string ⟨#[97]⟩, .slice none 0 0, .slice none 0 0, .int .i64 0]] w' (RetBool true w')) := fun w' _ => same_leaf 3 3 ⟨#[97]⟩ 0 0 w' true rfl
          have FIS : Hid (∀ w', Below WS.heap.size WS w' → Calls Try.prog 24 #[.agg #[.int .i64 3, .string ⟨#[97]⟩, .slice yo2 yn2 yc2, .slice none 0 0, .int .i64 0], .string ⟨#[97]⟩] w' (RetBool true w')) := fun w' _ => is_any 3 ⟨#[97]⟩ ⟨#[97]⟩ (.slice yo2 yn2 yc2) (.slice none 0 0) 0 true true rfl (by simp) rfl rfl w'
          refine wp_region_noPanic ?_
          refine wp_region_held_drew (S := Below WS.heap.size WS) (by kernel_rfl) ((Below.refl _ _).trans ⟨rfl, rfl, rfl, Nat.le_refl _, fun _ _ => rfl⟩) (fun hHeld => ?_)
          refine wpAnyH_take (i := 0) rfl (by kernel_rfl) (by kernel_rfl) (by kernel_rfl) (fun _ _ _ h => h) (yieldsIf_load_mid (by rfl) _ _ rfl w2.heap.size 0 rfl [.int .i64 3, .string ⟨#[97]⟩, .slice xo xn xc, .slice none 0 0, .int .i64 0] _ (fun w' hw' => row_range (Below.row hw' XC9.out)) Try.underlying28 rfl info28) hHeld ?_
          simp only [List.getElem_toArray, List.getElem_cons_succ, List.getElem_cons_zero, Act.put, List.setIfInBounds_toArray, List.set_cons_zero, List.set_cons_succ]
          refine wpAnyH_take (i := 1) rfl (by kernel_rfl) (by kernel_rfl) (by kernel_rfl) (fun _ _ _ h => h) (yieldsIf_load_mid (by rfl) _ _ rfl w5.heap.size 0 rfl [.int .i64 3, .string ⟨#[97]⟩, .slice yo2 yn2 yc2, .slice none 0 0, .int .i64 0] _ (fun w' hw' => row_range (Below.row hw' YC9.out)) Try.underlying28 rfl info28) hHeld ?_
          simp only [List.getElem_toArray, List.getElem_cons_succ, List.getElem_cons_zero, Act.put, List.setIfInBounds_toArray, List.set_cons_zero, List.set_cons_succ]
          refine wpAnyH_ready (rs := [2]) (by kernel_rfl) (by simp) ?_
          refine (AllReadyH.cons rfl (fun K hK => ?_) AllReadyH.nil)
          go_simp
          refine (FXY.out _ hHeld).mono ?_
          rintro e w5' ⟨rfl, hb⟩
          have hS := Below.trans hHeld (hb.mono hHeld.size)
          refine hK.out _ _ hS (fun hHeld => ?_)
          clear hK K hb hS
          try simp only [List.getElem_toArray, List.getElem_cons_succ, List.getElem_cons_zero, Act.put, List.setIfInBounds_toArray, List.set_cons_zero, List.set_cons_succ]
          refine wpAnyH_take (i := 3) (v := Value.bool true) rfl (by kernel_rfl) (by kernel_rfl) (by kernel_rfl) (fun _ _ _ h => h) (Or.inl ⟨rfl, fun w' hw' => ?_⟩) hHeld ?_
          · go_simp
          simp only [List.getElem_toArray, List.getElem_cons_succ, List.getElem_cons_zero, Act.put, List.setIfInBounds_toArray, List.set_cons_zero, List.set_cons_succ]
          refine wpAnyH_take (i := 4) (v := Value.bool true) rfl (by kernel_rfl) (by kernel_rfl) (by kernel_rfl) (fun _ _ _ h => h) (Or.inl ⟨rfl, fun w' hw' => ?_⟩) hHeld ?_
          · go_simp
          simp only [List.getElem_toArray, List.getElem_cons_succ, List.getElem_cons_zero, Act.put, List.setIfInBounds_toArray, List.set_cons_zero, List.set_cons_succ]
          refine wpAnyH_take (i := 5) rfl (by kernel_rfl) (by kernel_rfl) (by kernel_rfl) (fun _ _ _ h => h) (yieldsIf_load_mid (by rfl) _ _ rfl w2.heap.size 0 rfl [.int .i64 3, .string ⟨#[97]⟩, .slice xo xn xc, .slice none 0 0, .int .i64 0] _ (fun w' hw' => row_range (Below.row hw' XC9.out)) Try.underlying28 rfl info28) hHeld ?_
          simp only [List.getElem_toArray, List.getElem_cons_succ, List.getElem_cons_zero, Act.put, List.setIfInBounds_toArray, List.set_cons_zero, List.set_cons_succ]
          refine wpAnyH_take (i := 6) rfl (by kernel_rfl) (by kernel_rfl) (by kernel_rfl) (fun _ _ _ h => h) (yieldsIf_load_mid (by rfl) _ _ rfl w7.heap.size 0 rfl [.int .i64 3, .string ⟨#[97]⟩, .slice (some ⟨gz, 0, none⟩) ms.length zc, .slice none 0 0, .int .i64 0] _ (fun w' hw' => row_range (Below.row hw' ZC9.out)) Try.underlying28 rfl info28) hHeld ?_
          simp only [List.getElem_toArray, List.getElem_cons_succ, List.getElem_cons_zero, Act.put, List.setIfInBounds_toArray, List.set_cons_zero, List.set_cons_succ]
          refine wpAnyH_take (i := 8) (v := Value.bool true) rfl (by kernel_rfl) (by kernel_rfl) (by kernel_rfl) (fun _ _ _ h => h) (Or.inl ⟨rfl, fun w' hw' => ?_⟩) hHeld ?_
          · go_simp
          simp only [List.getElem_toArray, List.getElem_cons_succ, List.getElem_cons_zero, Act.put, List.setIfInBounds_toArray, List.set_cons_zero, List.set_cons_succ]
          refine wpAnyH_take (i := 9) (v := Value.bool false) rfl (by kernel_rfl) (by kernel_rfl) (by kernel_rfl) (fun _ _ _ h => h) (Or.inl ⟨rfl, fun w' hw' => ?_⟩) hHeld ?_
          · go_simp
          simp only [List.getElem_toArray, List.getElem_cons_succ, List.getElem_cons_zero, Act.put, List.setIfInBounds_toArray, List.set_cons_zero, List.set_cons_succ]
          refine wpAnyH_ready (rs := [7]) (by kernel_rfl) (by simp) ?_
          refine (AllReadyH.cons rfl (fun K hK => ?_) AllReadyH.nil)
          go_simp
          refine (FXZ.out _ hHeld).mono ?_
          rintro e w5' ⟨rfl, hb⟩
          have hS := Below.trans hHeld (hb.mono hHeld.size)
          refine hK.out _ _ hS (fun hHeld => ?_)
          clear hK K hb hS
          try simp only [List.getElem_toArray, List.getElem_cons_succ, List.getElem_cons_zero, Act.put, List.setIfInBounds_toArray, List.set_cons_zero, List.set_cons_succ]
          refine wpAnyH_take (i := 10) (v := Value.bool true) rfl (by kernel_rfl) (by kernel_rfl) (by kernel_rfl) (fun _ _ _ h => h) (Or.inl ⟨rfl, fun w' hw' => ?_⟩) hHeld ?_
          · go_simp
          simp only [List.getElem_toArray, List.getElem_cons_succ, List.getElem_cons_zero, Act.put, List.setIfInBounds_toArray, List.set_cons_zero, List.set_cons_succ]
          refine wpAnyH_take (i := 11) (v := Value.bool true) rfl (by kernel_rfl) (by kernel_rfl) (by kernel_rfl) (fun _ _ _ h => h) (Or.inl ⟨rfl, fun w' hw' => ?_⟩) hHeld ?_
          · go_simp
          simp only [List.getElem_toArray, List.getElem_cons_succ, List.getElem_cons_zero, Act.put, List.setIfInBounds_toArray, List.set_cons_zero, List.set_cons_succ]
          refine wpAnyH_take (i := 12) (v := Value.bool true) rfl (by kernel_rfl) (by kernel_rfl) (by kernel_rfl) (fun _ _ _ h => h) (Or.inl ⟨rfl, fun w' hw' => ?_⟩) hHeld ?_
          · go_simp
          simp only [List.getElem_toArray, List.getElem_cons_succ, List.getElem_cons_zero, Act.put, List.setIfInBounds_toArray, List.set_cons_zero, List.set_cons_succ]
          refine wpAnyH_take (i := 13) rfl (by kernel_rfl) (by kernel_rfl) (by kernel_rfl) (fun _ _ _ h => h) (yieldsIf_load_mid (by rfl) _ _ rfl w2.heap.size 0 rfl [.int .i64 3, .string ⟨#[97]⟩, .slice xo xn xc, .slice none 0 0, .int .i64 0] _ (fun w' hw' => row_range (Below.row hw' XC9.out)) Try.underlying28 rfl info28) hHeld ?_
          simp only [List.getElem_toArray, List.getElem_cons_succ, List.getElem_cons_zero, Act.put, List.setIfInBounds_toArray, List.set_cons_zero, List.set_cons_succ]
          refine wpAnyH_take (i := 15) rfl (by kernel_rfl) (by kernel_rfl) (by kernel_rfl) (fun _ _ _ h => h) (yieldsIf_load_mid (by rfl) _ _ rfl w5.heap.size 0 rfl [.int .i64 3, .string ⟨#[97]⟩, .slice yo2 yn2 yc2, .slice none 0 0, .int .i64 0] _ (fun w' hw' => row_range (Below.row hw' YC9.out)) Try.underlying28 rfl info28) hHeld ?_
          simp only [List.getElem_toArray, List.getElem_cons_succ, List.getElem_cons_zero, Act.put, List.setIfInBounds_toArray, List.set_cons_zero, List.set_cons_succ]
          refine wpAnyH_ready (rs := [14]) (by kernel_rfl) (by simp) ?_
          refine (AllReadyH.cons rfl (fun K hK => ?_) AllReadyH.nil)
          go_simp
          refine (FPX.out _ hHeld).mono ?_
          rintro e w5' ⟨rfl, hb⟩
          have hS := Below.trans hHeld (hb.mono hHeld.size)
          refine hK.out _ _ hS (fun hHeld => ?_)
          clear hK K hb hS
          try simp only [List.getElem_toArray, List.getElem_cons_succ, List.getElem_cons_zero, Act.put, List.setIfInBounds_toArray, List.set_cons_zero, List.set_cons_succ]
          refine wpAnyH_ready (rs := [16]) (by kernel_rfl) (by simp) ?_
          refine (AllReadyH.cons rfl (fun K hK => ?_) AllReadyH.nil)
          go_simp
          refine (FPY.out _ hHeld).mono ?_
          rintro e w5' ⟨rfl, hb⟩
          have hS := Below.trans hHeld (hb.mono hHeld.size)
          refine hK.out _ _ hS (fun hHeld => ?_)
          clear hK K hb hS
          try simp only [List.getElem_toArray, List.getElem_cons_succ, List.getElem_cons_zero, Act.put, List.setIfInBounds_toArray, List.set_cons_zero, List.set_cons_succ]
          refine wpAnyH_ready (rs := [17]) (by kernel_rfl) (by simp) ?_
          refine (AllReadyH.cons rfl (fun K hK => ?_) AllReadyH.nil)
          go_simp
          refine (FPP.out _ hHeld).mono ?_
          rintro e w5' ⟨rfl, hb⟩
          have hS := Below.trans hHeld (hb.mono hHeld.size)
          refine hK.out _ _ hS (fun hHeld => ?_)
          clear hK K hb hS
          try simp only [List.getElem_toArray, List.getElem_cons_succ, List.getElem_cons_zero, Act.put, List.setIfInBounds_toArray, List.set_cons_zero, List.set_cons_succ]
          refine wpAnyH_take (i := 18) (v := Value.bool true) rfl (by kernel_rfl) (by kernel_rfl) (by kernel_rfl) (fun _ _ _ h => h) (Or.inl ⟨rfl, fun w' hw' => ?_⟩) hHeld ?_
          · go_simp
          simp only [List.getElem_toArray, List.getElem_cons_succ, List.getElem_cons_zero, Act.put, List.setIfInBounds_toArray, List.set_cons_zero, List.set_cons_succ]
          refine wpAnyH_take (i := 19) (v := Value.bool true) rfl (by kernel_rfl) (by kernel_rfl) (by kernel_rfl) (fun _ _ _ h => h) (Or.inl ⟨rfl, fun w' hw' => ?_⟩) hHeld ?_
          · go_simp
          simp only [List.getElem_toArray, List.getElem_cons_succ, List.getElem_cons_zero, Act.put, List.setIfInBounds_toArray, List.set_cons_zero, List.set_cons_succ]
          refine wpAnyH_take (i := 20) rfl (by kernel_rfl) (by kernel_rfl) (by kernel_rfl) (fun _ _ _ h => h) (yieldsIf_load_mid (by rfl) _ _ rfl w5.heap.size 0 rfl [.int .i64 3, .string ⟨#[97]⟩, .slice yo2 yn2 yc2, .slice none 0 0, .int .i64 0] _ (fun w' hw' => row_range (Below.row hw' YC9.out)) Try.underlying28 rfl info28) hHeld ?_
          simp only [List.getElem_toArray, List.getElem_cons_succ, List.getElem_cons_zero, Act.put, List.setIfInBounds_toArray, List.set_cons_zero, List.set_cons_succ]
          refine wpAnyH_ready (rs := [21]) (by kernel_rfl) (by simp) ?_
          refine (AllReadyH.cons rfl (fun K hK => ?_) AllReadyH.nil)
          go_simp
          refine (FIS.out _ hHeld).mono ?_
          rintro e w5' ⟨rfl, hb⟩
          have hS := Below.trans hHeld (hb.mono hHeld.size)
          refine hK.out _ _ hS (fun hHeld => ?_)
          clear hK K hb hS
          try simp only [List.getElem_toArray, List.getElem_cons_succ, List.getElem_cons_zero, Act.put, List.setIfInBounds_toArray, List.set_cons_zero, List.set_cons_succ]
          refine wpAnyH_take (i := 22) (v := Value.bool true) rfl (by kernel_rfl) (by kernel_rfl) (by kernel_rfl) (fun _ _ _ h => h) (Or.inl ⟨rfl, fun w' hw' => ?_⟩) hHeld ?_
          · go_simp
          simp only [List.getElem_toArray, List.getElem_cons_succ, List.getElem_cons_zero, Act.put, List.setIfInBounds_toArray, List.set_cons_zero, List.set_cons_succ]
          refine wpAnyH_take (i := 23) (v := Value.bool true) rfl (by kernel_rfl) (by kernel_rfl) (by kernel_rfl) (fun _ _ _ h => h) (Or.inl ⟨rfl, fun w' hw' => ?_⟩) hHeld ?_
          · go_simp
          simp only [List.getElem_toArray, List.getElem_cons_succ, List.getElem_cons_zero, Act.put, List.setIfInBounds_toArray, List.set_cons_zero, List.set_cons_succ]
          refine wpAnyH_done (by kernel_rfl) ?_ _
          refine NoPanic.normal ?_
          have HS := Lib.hid hHeld
          clear hHeld
          go_wp2
          go_ret
          exact ⟨rfl, FB.out.trans (HS.out.mono FB.out.size)⟩
    · have q1 : decide ((1 : Int) < (len0 : Int)) = false := decide_eq_false (by omega)
      have ZC9 := Lib.hid ZC.out
      have ZA9 := Lib.hid (ZN.out.at (by omega))
      have HQ : Hid ((ms == ms) = true) := by show (ms == ms) = true; simp
      have FXY : Hid (∀ w', Below W9.heap.size W9 w' → Calls Try.prog 19 #[.agg #[.int .i64 3, .string ⟨#[97]⟩, .slice xo xn xc, .slice none 0 0, .int .i64 0], .agg #[.int .i64 3, .string ⟨#[97]⟩, .slice yo2 yn2 yc2, .slice none 0 0, .int .i64 0]] w' (RetBool false w')) := fun w' hb => by
        have := same_any 1 (by decide) (.mk 3 ⟨#[97]⟩ ms [] 0) (.mk 3 ⟨#[97]⟩ (ms ++ [5]) [] 0) (by simp [Dt.size, Dt.sizes]) _ _ _ _ w' (sym_at (XA9.out.keeps (Keeps.of_below hb))) (sym_at (YA9.out.keeps (Keeps.of_below hb)))
        rw [same_mk, ne_snoc] at this
        simpa using this
      have FXZ : Hid (∀ w', Below W9.heap.size W9 w' → Calls Try.prog 19 #[.agg #[.int .i64 3, .string ⟨#[97]⟩, .slice xo xn xc, .slice none 0 0, .int .i64 0], .agg #[.int .i64 3, .string ⟨#[97]⟩, .slice zo zn zc, .slice none 0 0, .int .i64 0]] w' (RetBool true w')) := fun w' hb => by
        have := same_any 1 (by decide) (.mk 3 ⟨#[97]⟩ ms [] 0) (.mk 3 ⟨#[97]⟩ ms [] 0) (by simp [Dt.size, Dt.sizes]) _ _ _ _ w' (sym_at (XA9.out.keeps (Keeps.of_below hb))) (sym_at (ZA9.out.keeps (Keeps.of_below hb)))
        rw [same_mk, HQ.out] at this
        simpa [Dt.sames] using this
      have FPX : Hid (∀ w', Below W9.heap.size W9 w' → Calls Try.prog 15 #[.agg #[.int .i64 3, .string ⟨#[97]⟩, .slice xo xn xc, .slice none 0 0, .int .i64 0]] w' (RetCs #[.int .i64 3, .string ⟨#[97]⟩, .slice none 0 0, .slice none 0 0, .int .i64 0] w')) := fun w' _ => plain_leaf 3 ⟨#[97]⟩ (.slice xo xn xc) 0 rfl w'
      have FPY : Hid (∀ w', Below W9.heap.size W9 w' → Calls Try.prog 15 #[.agg #[.int .i64 3, .string ⟨#[97]⟩, .slice yo2 yn2 yc2, .slice none 0 0, .int .i64 0]] w' (RetCs #[.int .i64 3, .string ⟨#[97]⟩, .slice none 0 0, .slice none 0 0, .int .i64 0] w')) := fun w' _ => plain_leaf 3 ⟨#[97]⟩ (.slice yo2 yn2 yc2) 0 rfl w'
      have FPP : Hid (∀ w', Below W9.heap.size W9 w' → Calls Try.prog 19 #[.agg #[.int .i64 3, .string ⟨#[97]⟩, .slice none 0 0, .slice none 0 0, .int .i64 0], .agg #[.int .i64 3, .string ⟨#[97]⟩, .slice none 0 0, .slice none 0 0, .int .i64 0]] w' (RetBool true w')) := fun w' _ => same_leaf 3 3 ⟨#[97]⟩ 0 0 w' true rfl
      have FIS : Hid (∀ w', Below W9.heap.size W9 w' → Calls Try.prog 24 #[.agg #[.int .i64 3, .string ⟨#[97]⟩, .slice yo2 yn2 yc2, .slice none 0 0, .int .i64 0], .string ⟨#[97]⟩] w' (RetBool true w')) := fun w' _ => is_any 3 ⟨#[97]⟩ ⟨#[97]⟩ (.slice yo2 yn2 yc2) (.slice none 0 0) 0 true true rfl (by simp) rfl rfl w'
      have FB := Lib.hid BW.out
      clear hs hs2 HL hx3 hx6 hx9 hzl
      go_upto_region 13 with fail
      clear q0 q1
      refine wp_region_noPanic ?_
      refine wp_region_held_drew (S := Below W9.heap.size W9) (by kernel_rfl) ((Below.refl _ _).drew) (fun hHeld => ?_)
      refine wpAnyH_take (i := 0) rfl (by kernel_rfl) (by kernel_rfl) (by kernel_rfl) (fun _ _ _ h => h) (yieldsIf_load_mid (by rfl) _ _ rfl w2.heap.size 0 rfl [.int .i64 3, .string ⟨#[97]⟩, .slice xo xn xc, .slice none 0 0, .int .i64 0] _ (fun w' hw' => row_range (Below.row hw' XC9.out)) Try.underlying28 rfl info28) hHeld ?_
      simp only [List.getElem_toArray, List.getElem_cons_succ, List.getElem_cons_zero, Act.put, List.setIfInBounds_toArray, List.set_cons_zero, List.set_cons_succ]
      refine wpAnyH_take (i := 1) rfl (by kernel_rfl) (by kernel_rfl) (by kernel_rfl) (fun _ _ _ h => h) (yieldsIf_load_mid (by rfl) _ _ rfl w5.heap.size 0 rfl [.int .i64 3, .string ⟨#[97]⟩, .slice yo2 yn2 yc2, .slice none 0 0, .int .i64 0] _ (fun w' hw' => row_range (Below.row hw' YC9.out)) Try.underlying28 rfl info28) hHeld ?_
      simp only [List.getElem_toArray, List.getElem_cons_succ, List.getElem_cons_zero, Act.put, List.setIfInBounds_toArray, List.set_cons_zero, List.set_cons_succ]
      refine wpAnyH_ready (rs := [2]) (by kernel_rfl) (by simp) ?_
      refine (AllReadyH.cons rfl (fun K hK => ?_) AllReadyH.nil)
      go_simp
      refine (FXY.out _ hHeld).mono ?_
      rintro e w5' ⟨rfl, hb⟩
      have hS := Below.trans hHeld (hb.mono hHeld.size)
      refine hK.out _ _ hS (fun hHeld => ?_)
      clear hK K hb hS
      try simp only [List.getElem_toArray, List.getElem_cons_succ, List.getElem_cons_zero, Act.put, List.setIfInBounds_toArray, List.set_cons_zero, List.set_cons_succ]
      refine wpAnyH_take (i := 3) (v := Value.bool true) rfl (by kernel_rfl) (by kernel_rfl) (by kernel_rfl) (fun _ _ _ h => h) (Or.inl ⟨rfl, fun w' hw' => ?_⟩) hHeld ?_
      · go_simp
      simp only [List.getElem_toArray, List.getElem_cons_succ, List.getElem_cons_zero, Act.put, List.setIfInBounds_toArray, List.set_cons_zero, List.set_cons_succ]
      refine wpAnyH_take (i := 4) (v := Value.bool true) rfl (by kernel_rfl) (by kernel_rfl) (by kernel_rfl) (fun _ _ _ h => h) (Or.inl ⟨rfl, fun w' hw' => ?_⟩) hHeld ?_
      · go_simp
      simp only [List.getElem_toArray, List.getElem_cons_succ, List.getElem_cons_zero, Act.put, List.setIfInBounds_toArray, List.set_cons_zero, List.set_cons_succ]
      refine wpAnyH_take (i := 5) rfl (by kernel_rfl) (by kernel_rfl) (by kernel_rfl) (fun _ _ _ h => h) (yieldsIf_load_mid (by rfl) _ _ rfl w2.heap.size 0 rfl [.int .i64 3, .string ⟨#[97]⟩, .slice xo xn xc, .slice none 0 0, .int .i64 0] _ (fun w' hw' => row_range (Below.row hw' XC9.out)) Try.underlying28 rfl info28) hHeld ?_
      simp only [List.getElem_toArray, List.getElem_cons_succ, List.getElem_cons_zero, Act.put, List.setIfInBounds_toArray, List.set_cons_zero, List.set_cons_succ]
      refine wpAnyH_take (i := 6) rfl (by kernel_rfl) (by kernel_rfl) (by kernel_rfl) (fun _ _ _ h => h) (yieldsIf_load_mid (by rfl) _ _ rfl w7.heap.size 0 rfl [.int .i64 3, .string ⟨#[97]⟩, .slice zo zn zc, .slice none 0 0, .int .i64 0] _ (fun w' hw' => row_range (Below.row hw' ZC9.out)) Try.underlying28 rfl info28) hHeld ?_
      simp only [List.getElem_toArray, List.getElem_cons_succ, List.getElem_cons_zero, Act.put, List.setIfInBounds_toArray, List.set_cons_zero, List.set_cons_succ]
      refine wpAnyH_take (i := 8) (v := Value.bool false) rfl (by kernel_rfl) (by kernel_rfl) (by kernel_rfl) (fun _ _ _ h => h) (Or.inl ⟨rfl, fun w' hw' => ?_⟩) hHeld ?_
      · go_simp
      simp only [List.getElem_toArray, List.getElem_cons_succ, List.getElem_cons_zero, Act.put, List.setIfInBounds_toArray, List.set_cons_zero, List.set_cons_succ]
      refine wpAnyH_take (i := 9) (v := Value.bool true) rfl (by kernel_rfl) (by kernel_rfl) (by kernel_rfl) (fun _ _ _ h => h) (Or.inl ⟨rfl, fun w' hw' => ?_⟩) hHeld ?_
      · go_simp
      simp only [List.getElem_toArray, List.getElem_cons_succ, List.getElem_cons_zero, Act.put, List.setIfInBounds_toArray, List.set_cons_zero, List.set_cons_succ]
      refine wpAnyH_ready (rs := [7]) (by kernel_rfl) (by simp) ?_
      refine (AllReadyH.cons rfl (fun K hK => ?_) AllReadyH.nil)
      go_simp
      refine (FXZ.out _ hHeld).mono ?_
      rintro e w5' ⟨rfl, hb⟩
      have hS := Below.trans hHeld (hb.mono hHeld.size)
      refine hK.out _ _ hS (fun hHeld => ?_)
      clear hK K hb hS
      try simp only [List.getElem_toArray, List.getElem_cons_succ, List.getElem_cons_zero, Act.put, List.setIfInBounds_toArray, List.set_cons_zero, List.set_cons_succ]
      refine wpAnyH_take (i := 10) (v := Value.bool true) rfl (by kernel_rfl) (by kernel_rfl) (by kernel_rfl) (fun _ _ _ h => h) (Or.inl ⟨rfl, fun w' hw' => ?_⟩) hHeld ?_
      · go_simp
      simp only [List.getElem_toArray, List.getElem_cons_succ, List.getElem_cons_zero, Act.put, List.setIfInBounds_toArray, List.set_cons_zero, List.set_cons_succ]
      refine wpAnyH_take (i := 11) (v := Value.bool true) rfl (by kernel_rfl) (by kernel_rfl) (by kernel_rfl) (fun _ _ _ h => h) (Or.inl ⟨rfl, fun w' hw' => ?_⟩) hHeld ?_
      · go_simp
      simp only [List.getElem_toArray, List.getElem_cons_succ, List.getElem_cons_zero, Act.put, List.setIfInBounds_toArray, List.set_cons_zero, List.set_cons_succ]
      refine wpAnyH_take (i := 12) (v := Value.bool true) rfl (by kernel_rfl) (by kernel_rfl) (by kernel_rfl) (fun _ _ _ h => h) (Or.inl ⟨rfl, fun w' hw' => ?_⟩) hHeld ?_
      · go_simp
      simp only [List.getElem_toArray, List.getElem_cons_succ, List.getElem_cons_zero, Act.put, List.setIfInBounds_toArray, List.set_cons_zero, List.set_cons_succ]
      refine wpAnyH_take (i := 13) rfl (by kernel_rfl) (by kernel_rfl) (by kernel_rfl) (fun _ _ _ h => h) (yieldsIf_load_mid (by rfl) _ _ rfl w2.heap.size 0 rfl [.int .i64 3, .string ⟨#[97]⟩, .slice xo xn xc, .slice none 0 0, .int .i64 0] _ (fun w' hw' => row_range (Below.row hw' XC9.out)) Try.underlying28 rfl info28) hHeld ?_
      simp only [List.getElem_toArray, List.getElem_cons_succ, List.getElem_cons_zero, Act.put, List.setIfInBounds_toArray, List.set_cons_zero, List.set_cons_succ]
      refine wpAnyH_take (i := 15) rfl (by kernel_rfl) (by kernel_rfl) (by kernel_rfl) (fun _ _ _ h => h) (yieldsIf_load_mid (by rfl) _ _ rfl w5.heap.size 0 rfl [.int .i64 3, .string ⟨#[97]⟩, .slice yo2 yn2 yc2, .slice none 0 0, .int .i64 0] _ (fun w' hw' => row_range (Below.row hw' YC9.out)) Try.underlying28 rfl info28) hHeld ?_
      simp only [List.getElem_toArray, List.getElem_cons_succ, List.getElem_cons_zero, Act.put, List.setIfInBounds_toArray, List.set_cons_zero, List.set_cons_succ]
      refine wpAnyH_ready (rs := [14]) (by kernel_rfl) (by simp) ?_
      refine (AllReadyH.cons rfl (fun K hK => ?_) AllReadyH.nil)
      go_simp
      refine (FPX.out _ hHeld).mono ?_
      rintro e w5' ⟨rfl, hb⟩
      have hS := Below.trans hHeld (hb.mono hHeld.size)
      refine hK.out _ _ hS (fun hHeld => ?_)
      clear hK K hb hS
      try simp only [List.getElem_toArray, List.getElem_cons_succ, List.getElem_cons_zero, Act.put, List.setIfInBounds_toArray, List.set_cons_zero, List.set_cons_succ]
      refine wpAnyH_ready (rs := [16]) (by kernel_rfl) (by simp) ?_
      refine (AllReadyH.cons rfl (fun K hK => ?_) AllReadyH.nil)
      go_simp
      refine (FPY.out _ hHeld).mono ?_
      rintro e w5' ⟨rfl, hb⟩
      have hS := Below.trans hHeld (hb.mono hHeld.size)
      refine hK.out _ _ hS (fun hHeld => ?_)
      clear hK K hb hS
      try simp only [List.getElem_toArray, List.getElem_cons_succ, List.getElem_cons_zero, Act.put, List.setIfInBounds_toArray, List.set_cons_zero, List.set_cons_succ]
      refine wpAnyH_ready (rs := [17]) (by kernel_rfl) (by simp) ?_
      refine (AllReadyH.cons rfl (fun K hK => ?_) AllReadyH.nil)
      go_simp
      refine (FPP.out _ hHeld).mono ?_
      rintro e w5' ⟨rfl, hb⟩
      have hS := Below.trans hHeld (hb.mono hHeld.size)
      refine hK.out _ _ hS (fun hHeld => ?_)
      clear hK K hb hS
      try simp only [List.getElem_toArray, List.getElem_cons_succ, List.getElem_cons_zero, Act.put, List.setIfInBounds_toArray, List.set_cons_zero, List.set_cons_succ]
      refine wpAnyH_take (i := 18) (v := Value.bool true) rfl (by kernel_rfl) (by kernel_rfl) (by kernel_rfl) (fun _ _ _ h => h) (Or.inl ⟨rfl, fun w' hw' => ?_⟩) hHeld ?_
      · go_simp
      simp only [List.getElem_toArray, List.getElem_cons_succ, List.getElem_cons_zero, Act.put, List.setIfInBounds_toArray, List.set_cons_zero, List.set_cons_succ]
      refine wpAnyH_take (i := 19) (v := Value.bool true) rfl (by kernel_rfl) (by kernel_rfl) (by kernel_rfl) (fun _ _ _ h => h) (Or.inl ⟨rfl, fun w' hw' => ?_⟩) hHeld ?_
      · go_simp
      simp only [List.getElem_toArray, List.getElem_cons_succ, List.getElem_cons_zero, Act.put, List.setIfInBounds_toArray, List.set_cons_zero, List.set_cons_succ]
      refine wpAnyH_take (i := 20) rfl (by kernel_rfl) (by kernel_rfl) (by kernel_rfl) (fun _ _ _ h => h) (yieldsIf_load_mid (by rfl) _ _ rfl w5.heap.size 0 rfl [.int .i64 3, .string ⟨#[97]⟩, .slice yo2 yn2 yc2, .slice none 0 0, .int .i64 0] _ (fun w' hw' => row_range (Below.row hw' YC9.out)) Try.underlying28 rfl info28) hHeld ?_
      simp only [List.getElem_toArray, List.getElem_cons_succ, List.getElem_cons_zero, Act.put, List.setIfInBounds_toArray, List.set_cons_zero, List.set_cons_succ]
      refine wpAnyH_ready (rs := [21]) (by kernel_rfl) (by simp) ?_
      refine (AllReadyH.cons rfl (fun K hK => ?_) AllReadyH.nil)
      go_simp
      refine (FIS.out _ hHeld).mono ?_
      rintro e w5' ⟨rfl, hb⟩
      have hS := Below.trans hHeld (hb.mono hHeld.size)
      refine hK.out _ _ hS (fun hHeld => ?_)
      clear hK K hb hS
      try simp only [List.getElem_toArray, List.getElem_cons_succ, List.getElem_cons_zero, Act.put, List.setIfInBounds_toArray, List.set_cons_zero, List.set_cons_succ]
      refine wpAnyH_take (i := 22) (v := Value.bool true) rfl (by kernel_rfl) (by kernel_rfl) (by kernel_rfl) (fun _ _ _ h => h) (Or.inl ⟨rfl, fun w' hw' => ?_⟩) hHeld ?_
      · go_simp
      simp only [List.getElem_toArray, List.getElem_cons_succ, List.getElem_cons_zero, Act.put, List.setIfInBounds_toArray, List.set_cons_zero, List.set_cons_succ]
      refine wpAnyH_take (i := 23) (v := Value.bool true) rfl (by kernel_rfl) (by kernel_rfl) (by kernel_rfl) (fun _ _ _ h => h) (Or.inl ⟨rfl, fun w' hw' => ?_⟩) hHeld ?_
      · go_simp
      simp only [List.getElem_toArray, List.getElem_cons_succ, List.getElem_cons_zero, Act.put, List.setIfInBounds_toArray, List.set_cons_zero, List.set_cons_succ]
      refine wpAnyH_done (by kernel_rfl) ?_ _
      refine NoPanic.normal ?_
      have HS := Lib.hid hHeld
      clear hHeld
      go_wp2
      go_ret
      exact ⟨rfl, FB.out.trans (HS.out.mono FB.out.size)⟩
end Go.Proofs.Ytlkpddokmibkiaa
