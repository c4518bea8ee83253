/- Make, at raw terms without parts. -/
import Derived.Test.YtmcgocbkjdacaaaDoorMK1
import Derived.Deep.AppendSrc
namespace Go.Proofs.YtmcgocbkjdacaaaDoor
open Go.RowKit Go.BigM
set_option linter.unusedVariables false
set_option linter.unusedSimpArgs false
def intT : List ByteArray := [⟨#[48]⟩, ⟨#[49]⟩, ⟨#[45, 53]⟩, ⟨#[55]⟩, ⟨#[49, 48, 48, 48, 48, 48, 48, 48, 48, 48, 48, 48, 48, 48, 48, 48, 48, 48, 48, 48, 48]⟩]
theorem intT_num (i : Nat) (h : i < 5) : (intT.getD i ⟨#[]⟩).size ≤ 100 ∧ num (intT.getD i ⟨#[]⟩) = true := by
  match i, h with
  | 0, _ => decide
  | 1, _ => decide
  | 2, _ => decide
  | 3, _ => decide
  | 4, _ => decide
  | n + 5, h => exact absurd h (by omega)
set_option maxHeartbeats 8000000 in
set_option maxRecDepth 100000 in
theorem make0 (k n : Int) (pl : List Rw) (ih : ∀ r ∈ pl, MkC r) (w0 w : World) (g m : Nat) (sc : List ByteArray) (scv : Value) (P : Pre w0 w g m sc scv) (po : Option Addr) (pc : Nat) (hm : m + 2 * (1 + Rw.cnts pl) ≤ 50000) (hR : RsAt w0 po pl) (hk : I64 k) (hn : I64 n) (hq : k % 16 = 0) :
    Calls Tryd.prog 30 #[.pointer (some ⟨g, 0, none⟩), .agg #[.int .i64 k, .int .i64 n, .slice po pl.length pc], scv] w (RetMade sc g m (2 * (1 + Rw.cnts pl)) (4 * (1 + Rw.cnts pl)) w) := by
  have hb2 : Below w.heap.size w ((w.alloc (.cells #[.int .i64 k, .int .i64 n, .slice po pl.length pc] 53)).alloc (.cells Z4 28)) := ((Below.refl w.heap.size w).alloc (Nat.le_refl _) _).alloc (by simp) _
  have hz2 : ((w.alloc (.cells #[.int .i64 k, .int .i64 n, .slice po pl.length pc] 53)).alloc (.cells Z4 28)).heap[w.heap.size + 1]? = some (.cells Z4 28 (0, 0)) := by
    have h := alloc_at (w.alloc (.cells #[.int .i64 k, .int .i64 n, .slice po pl.length pc] 53)) (.cells Z4 28)
    have e : (w.alloc (.cells #[.int .i64 k, .int .i64 n, .slice po pl.length pc] 53)).heap.size = w.heap.size + 1 := by simp
    rw [e] at h; exact h
  have hs2 : ((w.alloc (.cells #[.int .i64 k, .int .i64 n, .slice po pl.length pc] 53)).alloc (.cells Z4 28)).heap.size = w.heap.size + 2 := by simp
  have hgw := P.cnt.lt
  have HB2 := Lib.hid hb2
  have HZ2 := Lib.hid hz2
  have HRW : Hid (((w.alloc (.cells #[.int .i64 k, .int .i64 n, .slice po pl.length pc] 53)).alloc (.cells Z4 28)).heap[w.heap.size]? = some (.cells #[.int .i64 k, .int .i64 n, .slice po pl.length pc] 53 (0, 0))) := (Lib.alloc_old _ _ _ (by simp)).trans (alloc_at w _)
  obtain ⟨so, sc1, rfl⟩ := P.scope.form
  have PP := Lib.hid P
  have hfew : sc.length ≤ 60000 := by have := P.few; omega
  have F0 := Lib.hid (fun w => within_is k 16 0 hk (by decide) (by decide) hq w)
  have F5 := Lib.hid (fun w => within_some n 5 hn (by decide) (by decide) w)
  have CST : ∀ W : World, W.alloc (.cells #[.string ⟨#[48]⟩, .string ⟨#[49]⟩, .string ⟨#[45, 53]⟩, .string ⟨#[55]⟩, .string ⟨#[49, 48, 48, 48, 48, 48, 48, 48, 48, 48, 48, 48, 48, 48, 48, 48, 48, 48, 48, 48, 48]⟩] 9) = W.alloc (.cells (tcells intT) 9) := fun _ => rfl
  have HCS := Lib.hid CST
  clear ih hm hR CST hb2 hz2 P hq hk hn
  go_enter Tryd.func30, Tryd.ntmps30
  go_wp2_with fail
  generalize (w.alloc (.cells #[.int .i64 k, .int .i64 n, .slice po pl.length pc] 53)).alloc (.cells #[.int .i64 0, .string ⟨#[]⟩, .slice none 0 0, .slice none 0 0] 28) = W2 at HB2 HZ2 hs2 HRW ⊢
  have cK : W2.cell? ⟨w.heap.size, 0, none⟩ = some (.int .i64 k) := by rw [Lib.cell_of_heap HRW.out]; rfl
  have cN : W2.cell? ⟨w.heap.size, 1, none⟩ = some (.int .i64 n) := by rw [Lib.cell_of_heap HRW.out]; rfl
  have cN2 : (W2.alloc (.cells (tcells intT) 9)).cell? ⟨w.heap.size, 1, none⟩ = some (.int .i64 n) := cell_below ((Below.refl _ _).alloc (Nat.le_refl _) _) cN
  refine (F0.out _).mono ?_
  rintro e w5 ⟨rfl, rfl⟩
  go_wp2_with fail
  rw [HCS.out]
  have hb3 : Below W2.heap.size W2 (W2.alloc (.cells (tcells intT) 9)) := (Below.refl _ _).alloc (Nat.le_refl _) _
  have hg3 := alloc_at W2 (.cells (tcells intT) 9)
  generalize W2.alloc (.cells (tcells intT) 9) = W3 at hb3 hg3 cN2 ⊢
  refine (F5.out _).mono ?_
  rintro e w6 ⟨q, hq, rfl, rfl⟩
  have e0 := tcells_get _ _ intT hg3 q hq
  rw [hs2] at e0
  obtain ⟨x, hx⟩ : ∃ x, intT.getD q ⟨#[]⟩ = x := ⟨_, rfl⟩
  have hxn := intT_num q hq
  rw [hx] at e0 hxn
  clear hx
  have hleaf : RetMade sc g m 0 1 W2 (.returned (.agg #[.int .i64 1, .string x, .slice none 0 0, .slice none 0 0])) W3 := made_leaf (Made.leaf hxn.1 (by decide) (by simp [shapeB, textB, namesB, partsB, hxn.2])) (PP.out.below' HB2.out).cnt hb3 (Nat.le_refl _)
  obtain ⟨k5, t5, nv5, av5, he5, hz5, hone, hfin⟩ := made_store (c' := 2 * (1 + Rw.cnts pl)) (s' := 4 * (1 + Rw.cnts pl)) hleaf HB2.out hgw (by rw [hs2]; omega) HZ2.out (Nat.zero_le _) (by omega)
  injection he5 with he5
  injection he5 with he5
  rw [← he5] at hone hfin
  have HZ5 := Lib.hid hz5
  have HF := Lib.hid hfin
  clear hleaf hz5 hfin he5
  go_wp2_with (refine wpList_store_row rfl 28 _ _ rfl (w.heap.size + 1) #[.int .i64 1, .string x, .slice none 0 0, .slice none 0 0] rfl rfl 28 Z4 HZ5.out info28 rfl hone ?_)
  refine bodyPost_ret (results_cell_row rfl _ _ (w.heap.size + 1) 28 #[.int .i64 1, .string x, .slice none 0 0, .slice none 0 0] (0, 0) _ rfl (setRow_heap W3 _ _ _ 28 _ HZ5.out) Tryd.underlying28 rfl info28) rfl ?_
  exact HF.out
set_option maxHeartbeats 8000000 in
set_option maxRecDepth 100000 in
theorem make1 (k n : Int) (pl : List Rw) (ih : ∀ r ∈ pl, MkC r) (w0 w : World) (g m : Nat) (sc : List ByteArray) (scv : Value) (P : Pre w0 w g m sc scv) (po : Option Addr) (pc : Nat) (hm : m + 2 * (1 + Rw.cnts pl) ≤ 50000) (hR : RsAt w0 po pl) (hk : I64 k) (hn : I64 n) (hq : k % 16 = 1) :
    Calls Tryd.prog 30 #[.pointer (some ⟨g, 0, none⟩), .agg #[.int .i64 k, .int .i64 n, .slice po pl.length pc], scv] w (RetMade sc g m (2 * (1 + Rw.cnts pl)) (4 * (1 + Rw.cnts pl)) w) := by
  have hb2 : Below w.heap.size w ((w.alloc (.cells #[.int .i64 k, .int .i64 n, .slice po pl.length pc] 53)).alloc (.cells Z4 28)) := ((Below.refl w.heap.size w).alloc (Nat.le_refl _) _).alloc (by simp) _
  have hz2 : ((w.alloc (.cells #[.int .i64 k, .int .i64 n, .slice po pl.length pc] 53)).alloc (.cells Z4 28)).heap[w.heap.size + 1]? = some (.cells Z4 28 (0, 0)) := by
    have h := alloc_at (w.alloc (.cells #[.int .i64 k, .int .i64 n, .slice po pl.length pc] 53)) (.cells Z4 28)
    have e : (w.alloc (.cells #[.int .i64 k, .int .i64 n, .slice po pl.length pc] 53)).heap.size = w.heap.size + 1 := by simp
    rw [e] at h; exact h
  have hs2 : ((w.alloc (.cells #[.int .i64 k, .int .i64 n, .slice po pl.length pc] 53)).alloc (.cells Z4 28)).heap.size = w.heap.size + 2 := by simp
  have hgw := P.cnt.lt
  have HB2 := Lib.hid hb2
  have HZ2 := Lib.hid hz2
  have HRW : Hid (((w.alloc (.cells #[.int .i64 k, .int .i64 n, .slice po pl.length pc] 53)).alloc (.cells Z4 28)).heap[w.heap.size]? = some (.cells #[.int .i64 k, .int .i64 n, .slice po pl.length pc] 53 (0, 0))) := (Lib.alloc_old _ _ _ (by simp)).trans (alloc_at w _)
  obtain ⟨so, sc1, rfl⟩ := P.scope.form
  have PP := Lib.hid P
  have hfew : sc.length ≤ 60000 := by have := P.few; omega
  have F0 := Lib.hid (fun w => within_is k 16 1 hk (by decide) (by decide) hq w)
  obtain ⟨s, hs⟩ : ∃ s : Nat, n % 4 = (s : Int) := ⟨(n % 4).toNat, by omega⟩
  have hs4 : s < 4 := by omega
  have F5 := Lib.hid (fun w => within_is n 4 s hn (by decide) (by decide) hs w)
  clear ih hm hR hb2 hz2 P hq hk hn hs
  go_enter Tryd.func30, Tryd.ntmps30
  go_wp2_with fail
  generalize (w.alloc (.cells #[.int .i64 k, .int .i64 n, .slice po pl.length pc] 53)).alloc (.cells #[.int .i64 0, .string ⟨#[]⟩, .slice none 0 0, .slice none 0 0] 28) = W2 at HB2 HZ2 hs2 HRW ⊢
  have cK : W2.cell? ⟨w.heap.size, 0, none⟩ = some (.int .i64 k) := by rw [Lib.cell_of_heap HRW.out]; rfl
  have cN : W2.cell? ⟨w.heap.size, 1, none⟩ = some (.int .i64 n) := by rw [Lib.cell_of_heap HRW.out]; rfl
  obtain ⟨W3, hW3⟩ : ∃ W3, W3 = W2.alloc (.cells #[.int .i64 2, .string ⟨#[35, 116]⟩, .slice none 0 0, .slice none 0 0, .int .i64 2, .string ⟨#[35, 102]⟩, .slice none 0 0, .slice none 0 0, .int .i64 3, .string ⟨#[]⟩, .slice none 0 0, .slice none 0 0, .int .i64 4, .string ⟨#[115]⟩, .slice none 0 0, .slice none 0 0] 28) := ⟨_, rfl⟩
  have hb3 : Below W2.heap.size W2 W3 := by rw [hW3]; exact (Below.refl _ _).alloc (Nat.le_refl _) _
  have hg3 : W3.heap[w.heap.size + 2]? = some (.cells #[.int .i64 2, .string ⟨#[35, 116]⟩, .slice none 0 0, .slice none 0 0, .int .i64 2, .string ⟨#[35, 102]⟩, .slice none 0 0, .slice none 0 0, .int .i64 3, .string ⟨#[]⟩, .slice none 0 0, .slice none 0 0, .int .i64 4, .string ⟨#[115]⟩, .slice none 0 0, .slice none 0 0] 28 (0, 0)) := by rw [hW3, ← hs2]; exact alloc_at W2 _
  have cN2 : W3.cell? ⟨w.heap.size, 1, none⟩ = some (.int .i64 n) := cell_below hb3 cN
  have HW3 := Lib.hid hW3.symm
  clear hW3
  refine (F0.out _).mono ?_
  rintro e w5 ⟨rfl, rfl⟩
  go_wp2_with fail
  rw [HW3.out]
  refine (F5.out _).mono ?_
  rintro e w6 ⟨rfl, rfl⟩
  clear HW3
  match s, hs4 with
  | 0, _ =>
    have d0 : W3.cell? ⟨w.heap.size + 2, 0, none⟩ = some (.int .i64 2) := by rw [Lib.cell_of_heap hg3]; rfl
    have d1 : W3.cell? ⟨w.heap.size + 2, 1, none⟩ = some (.string ⟨#[35, 116]⟩) := by rw [Lib.cell_of_heap hg3]; rfl
    have d2 : W3.cell? ⟨w.heap.size + 2, 2, none⟩ = some (.slice none 0 0) := by rw [Lib.cell_of_heap hg3]; rfl
    have d3 : W3.cell? ⟨w.heap.size + 2, 3, none⟩ = some (.slice none 0 0) := by rw [Lib.cell_of_heap hg3]; rfl
    clear hg3
    have hleaf : RetMade sc g m 0 1 W2 (.returned (.agg #[.int .i64 2, .string ⟨#[35, 116]⟩, .slice none 0 0, .slice none 0 0])) W3 := made_leaf (Made.leaf (by decide) (by decide) (by simp [shapeB, textB, namesB, partsB, Lib.toList_data])) (PP.out.below' HB2.out).cnt hb3 (Nat.le_refl _)
    obtain ⟨k5, t5, nv5, av5, he5, hz5, hone, hfin⟩ := made_store (c' := 2 * (1 + Rw.cnts pl)) (s' := 4 * (1 + Rw.cnts pl)) hleaf HB2.out hgw (by rw [hs2]; omega) HZ2.out (Nat.zero_le _) (by omega)
    injection he5 with he5
    injection he5 with he5
    rw [← he5] at hone hfin
    have HZ5 := Lib.hid hz5
    have HF := Lib.hid hfin
    clear hleaf hz5 hfin he5
    go_wp2_with (refine wpList_store_row rfl 28 _ _ rfl (w.heap.size + 1) #[.int .i64 2, .string ⟨#[35, 116]⟩, .slice none 0 0, .slice none 0 0] rfl rfl 28 Z4 HZ5.out info28 rfl hone ?_)
    refine bodyPost_ret (results_cell_row rfl _ _ (w.heap.size + 1) 28 #[.int .i64 2, .string ⟨#[35, 116]⟩, .slice none 0 0, .slice none 0 0] (0, 0) _ rfl (setRow_heap W3 _ _ _ 28 _ HZ5.out) Tryd.underlying28 rfl info28) rfl ?_
    exact HF.out
  | 1, _ =>
    have d0 : W3.cell? ⟨w.heap.size + 2, 4, none⟩ = some (.int .i64 2) := by rw [Lib.cell_of_heap hg3]; rfl
    have d1 : W3.cell? ⟨w.heap.size + 2, 5, none⟩ = some (.string ⟨#[35, 102]⟩) := by rw [Lib.cell_of_heap hg3]; rfl
    have d2 : W3.cell? ⟨w.heap.size + 2, 6, none⟩ = some (.slice none 0 0) := by rw [Lib.cell_of_heap hg3]; rfl
    have d3 : W3.cell? ⟨w.heap.size + 2, 7, none⟩ = some (.slice none 0 0) := by rw [Lib.cell_of_heap hg3]; rfl
    clear hg3
    have hleaf : RetMade sc g m 0 1 W2 (.returned (.agg #[.int .i64 2, .string ⟨#[35, 102]⟩, .slice none 0 0, .slice none 0 0])) W3 := made_leaf (Made.leaf (by decide) (by decide) (by simp [shapeB, textB, namesB, partsB, Lib.toList_data])) (PP.out.below' HB2.out).cnt hb3 (Nat.le_refl _)
    obtain ⟨k5, t5, nv5, av5, he5, hz5, hone, hfin⟩ := made_store (c' := 2 * (1 + Rw.cnts pl)) (s' := 4 * (1 + Rw.cnts pl)) hleaf HB2.out hgw (by rw [hs2]; omega) HZ2.out (Nat.zero_le _) (by omega)
    injection he5 with he5
    injection he5 with he5
    rw [← he5] at hone hfin
    have HZ5 := Lib.hid hz5
    have HF := Lib.hid hfin
    clear hleaf hz5 hfin he5
    go_wp2_with (refine wpList_store_row rfl 28 _ _ rfl (w.heap.size + 1) #[.int .i64 2, .string ⟨#[35, 102]⟩, .slice none 0 0, .slice none 0 0] rfl rfl 28 Z4 HZ5.out info28 rfl hone ?_)
    refine bodyPost_ret (results_cell_row rfl _ _ (w.heap.size + 1) 28 #[.int .i64 2, .string ⟨#[35, 102]⟩, .slice none 0 0, .slice none 0 0] (0, 0) _ rfl (setRow_heap W3 _ _ _ 28 _ HZ5.out) Tryd.underlying28 rfl info28) rfl ?_
    exact HF.out
  | 2, _ =>
    have d0 : W3.cell? ⟨w.heap.size + 2, 8, none⟩ = some (.int .i64 3) := by rw [Lib.cell_of_heap hg3]; rfl
    have d1 : W3.cell? ⟨w.heap.size + 2, 9, none⟩ = some (.string ⟨#[]⟩) := by rw [Lib.cell_of_heap hg3]; rfl
    have d2 : W3.cell? ⟨w.heap.size + 2, 10, none⟩ = some (.slice none 0 0) := by rw [Lib.cell_of_heap hg3]; rfl
    have d3 : W3.cell? ⟨w.heap.size + 2, 11, none⟩ = some (.slice none 0 0) := by rw [Lib.cell_of_heap hg3]; rfl
    clear hg3
    have hleaf : RetMade sc g m 0 1 W2 (.returned (.agg #[.int .i64 3, .string ⟨#[]⟩, .slice none 0 0, .slice none 0 0])) W3 := made_leaf (Made.leaf (by decide) (by decide) (by simp [shapeB, textB, namesB, partsB, Lib.toList_data])) (PP.out.below' HB2.out).cnt hb3 (Nat.le_refl _)
    obtain ⟨k5, t5, nv5, av5, he5, hz5, hone, hfin⟩ := made_store (c' := 2 * (1 + Rw.cnts pl)) (s' := 4 * (1 + Rw.cnts pl)) hleaf HB2.out hgw (by rw [hs2]; omega) HZ2.out (Nat.zero_le _) (by omega)
    injection he5 with he5
    injection he5 with he5
    rw [← he5] at hone hfin
    have HZ5 := Lib.hid hz5
    have HF := Lib.hid hfin
    clear hleaf hz5 hfin he5
    go_wp2_with (refine wpList_store_row rfl 28 _ _ rfl (w.heap.size + 1) #[.int .i64 3, .string ⟨#[]⟩, .slice none 0 0, .slice none 0 0] rfl rfl 28 Z4 HZ5.out info28 rfl hone ?_)
    refine bodyPost_ret (results_cell_row rfl _ _ (w.heap.size + 1) 28 #[.int .i64 3, .string ⟨#[]⟩, .slice none 0 0, .slice none 0 0] (0, 0) _ rfl (setRow_heap W3 _ _ _ 28 _ HZ5.out) Tryd.underlying28 rfl info28) rfl ?_
    exact HF.out
  | 3, _ =>
    have d0 : W3.cell? ⟨w.heap.size + 2, 12, none⟩ = some (.int .i64 4) := by rw [Lib.cell_of_heap hg3]; rfl
    have d1 : W3.cell? ⟨w.heap.size + 2, 13, none⟩ = some (.string ⟨#[115]⟩) := by rw [Lib.cell_of_heap hg3]; rfl
    have d2 : W3.cell? ⟨w.heap.size + 2, 14, none⟩ = some (.slice none 0 0) := by rw [Lib.cell_of_heap hg3]; rfl
    have d3 : W3.cell? ⟨w.heap.size + 2, 15, none⟩ = some (.slice none 0 0) := by rw [Lib.cell_of_heap hg3]; rfl
    clear hg3
    have hleaf : RetMade sc g m 0 1 W2 (.returned (.agg #[.int .i64 4, .string ⟨#[115]⟩, .slice none 0 0, .slice none 0 0])) W3 := made_leaf (Made.leaf (by decide) (by decide) (by simp [shapeB, textB, namesB, partsB, Lib.toList_data])) (PP.out.below' HB2.out).cnt hb3 (Nat.le_refl _)
    obtain ⟨k5, t5, nv5, av5, he5, hz5, hone, hfin⟩ := made_store (c' := 2 * (1 + Rw.cnts pl)) (s' := 4 * (1 + Rw.cnts pl)) hleaf HB2.out hgw (by rw [hs2]; omega) HZ2.out (Nat.zero_le _) (by omega)
    injection he5 with he5
    injection he5 with he5
    rw [← he5] at hone hfin
    have HZ5 := Lib.hid hz5
    have HF := Lib.hid hfin
    clear hleaf hz5 hfin he5
    go_wp2_with (refine wpList_store_row rfl 28 _ _ rfl (w.heap.size + 1) #[.int .i64 4, .string ⟨#[115]⟩, .slice none 0 0, .slice none 0 0] rfl rfl 28 Z4 HZ5.out info28 rfl hone ?_)
    refine bodyPost_ret (results_cell_row rfl _ _ (w.heap.size + 1) 28 #[.int .i64 4, .string ⟨#[115]⟩, .slice none 0 0, .slice none 0 0] (0, 0) _ rfl (setRow_heap W3 _ _ _ 28 _ HZ5.out) Tryd.underlying28 rfl info28) rfl ?_
    exact HF.out
  | z + 4, h => exact absurd h (by omega)
set_option maxHeartbeats 8000000 in
set_option maxRecDepth 100000 in
theorem make2 (k n : Int) (pl : List Rw) (ih : ∀ r ∈ pl, MkC r) (w0 w : World) (g m : Nat) (sc : List ByteArray) (scv : Value) (P : Pre w0 w g m sc scv) (po : Option Addr) (pc : Nat) (hm : m + 2 * (1 + Rw.cnts pl) ≤ 50000) (hR : RsAt w0 po pl) (hk : I64 k) (hn : I64 n) (hq : k % 16 = 2) :
    Calls Tryd.prog 30 #[.pointer (some ⟨g, 0, none⟩), .agg #[.int .i64 k, .int .i64 n, .slice po pl.length pc], scv] w (RetMade sc g m (2 * (1 + Rw.cnts pl)) (4 * (1 + Rw.cnts pl)) w) := by
  have hb2 : Below w.heap.size w ((w.alloc (.cells #[.int .i64 k, .int .i64 n, .slice po pl.length pc] 53)).alloc (.cells Z4 28)) := ((Below.refl w.heap.size w).alloc (Nat.le_refl _) _).alloc (by simp) _
  have hz2 : ((w.alloc (.cells #[.int .i64 k, .int .i64 n, .slice po pl.length pc] 53)).alloc (.cells Z4 28)).heap[w.heap.size + 1]? = some (.cells Z4 28 (0, 0)) := by
    have h := alloc_at (w.alloc (.cells #[.int .i64 k, .int .i64 n, .slice po pl.length pc] 53)) (.cells Z4 28)
    have e : (w.alloc (.cells #[.int .i64 k, .int .i64 n, .slice po pl.length pc] 53)).heap.size = w.heap.size + 1 := by simp
    rw [e] at h; exact h
  have hs2 : ((w.alloc (.cells #[.int .i64 k, .int .i64 n, .slice po pl.length pc] 53)).alloc (.cells Z4 28)).heap.size = w.heap.size + 2 := by simp
  have hgw := P.cnt.lt
  have HB2 := Lib.hid hb2
  have HZ2 := Lib.hid hz2
  have HRW : Hid (((w.alloc (.cells #[.int .i64 k, .int .i64 n, .slice po pl.length pc] 53)).alloc (.cells Z4 28)).heap[w.heap.size]? = some (.cells #[.int .i64 k, .int .i64 n, .slice po pl.length pc] 53 (0, 0))) := (Lib.alloc_old _ _ _ (by simp)).trans (alloc_at w _)
  obtain ⟨so, sc1, rfl⟩ := P.scope.form
  have PP := Lib.hid P
  have hfew : sc.length ≤ 60000 := by have := P.few; omega
  have F0 := Lib.hid (fun w => within_is k 16 2 hk (by decide) (by decide) hq w)
  clear ih hm hR hb2 hz2 P hq hk
  by_cases hs0 : 0 < sc.length
  · have q2 : decide ((0 : Int) < (sc.length : Int)) = true := decide_eq_true (by omega)
    have F5 := Lib.hid (fun w => within_some2 n sc.length hn hs0 hfew w)
    go_enter Tryd.func30, Tryd.ntmps30
    go_wp2_with fail
    generalize (w.alloc (.cells #[.int .i64 k, .int .i64 n, .slice po pl.length pc] 53)).alloc (.cells #[.int .i64 0, .string ⟨#[]⟩, .slice none 0 0, .slice none 0 0] 28) = W2 at HB2 HZ2 hs2 HRW ⊢
    have cK : W2.cell? ⟨w.heap.size, 0, none⟩ = some (.int .i64 k) := by rw [Lib.cell_of_heap HRW.out]; rfl
    have cN : W2.cell? ⟨w.heap.size, 1, none⟩ = some (.int .i64 n) := by rw [Lib.cell_of_heap HRW.out]; rfl
    refine (F0.out _).mono ?_
    rintro e w5 ⟨rfl, rfl⟩
    go_wp2_with fail
    refine (F5.out _).mono ?_
    rintro e w6 ⟨q, hq, rfl, rfl⟩
    have PQ := PP.out.below' HB2.out
    obtain ⟨g1, o1, rfl, hg1, e0⟩ := PQ.scope.get q hq
    have hmem := List.getElem_mem hq
    obtain ⟨x, hx⟩ : ∃ x, sc[q] = x := ⟨_, rfl⟩
    rw [hx] at e0 hmem
    have HMV : Hid (Made sc m m (.mk 5 x [] [])) := Made.var PQ.good hmem
    clear PQ hmem hx hg1
    go_wp2_with fail
    refine (var_any x _).mono ?_
    rintro e w7 ⟨rfl, hb7⟩
    have hleaf : RetMade sc g m 0 1 W2 (.returned (.agg #[.int .i64 5, .string x, .slice none 0 0, .slice none 0 0])) w7 := made_leaf HMV.out (PP.out.below' HB2.out).cnt hb7 (Nat.le_refl _)
    obtain ⟨k5, t5, nv5, av5, he5, hz5, hone, hfin⟩ := made_store (c' := 2 * (1 + Rw.cnts pl)) (s' := 4 * (1 + Rw.cnts pl)) hleaf HB2.out hgw (by rw [hs2]; omega) HZ2.out (Nat.zero_le _) (by omega)
    injection he5 with he5
    injection he5 with he5
    rw [← he5] at hone hfin
    have HZ5 := Lib.hid hz5
    have HF := Lib.hid hfin
    clear hleaf hz5 hfin he5
    go_wp2_with (refine wpList_store_row rfl 28 _ _ rfl (w.heap.size + 1) #[.int .i64 5, .string x, .slice none 0 0, .slice none 0 0] rfl rfl 28 Z4 HZ5.out info28 rfl hone ?_)
    refine bodyPost_ret (results_cell_row rfl _ _ (w.heap.size + 1) 28 #[.int .i64 5, .string x, .slice none 0 0, .slice none 0 0] (0, 0) _ rfl (setRow_heap w7 _ _ _ 28 _ HZ5.out) Tryd.underlying28 rfl info28) rfl ?_
    exact HF.out
  · obtain hsc : sc.length = 0 := by omega
    have q2 : decide ((0 : Int) < (sc.length : Int)) = false := decide_eq_false (by omega)
    go_enter Tryd.func30, Tryd.ntmps30
    go_wp2_with fail
    generalize (w.alloc (.cells #[.int .i64 k, .int .i64 n, .slice po pl.length pc] 53)).alloc (.cells #[.int .i64 0, .string ⟨#[]⟩, .slice none 0 0, .slice none 0 0] 28) = W2 at HB2 HZ2 hs2 HRW ⊢
    have cK : W2.cell? ⟨w.heap.size, 0, none⟩ = some (.int .i64 k) := by rw [Lib.cell_of_heap HRW.out]; rfl
    have cN : W2.cell? ⟨w.heap.size, 1, none⟩ = some (.int .i64 n) := by rw [Lib.cell_of_heap HRW.out]; rfl
    refine (F0.out _).mono ?_
    rintro e w5 ⟨rfl, rfl⟩
    have hleaf : RetMade sc g m 0 1 W2 (.returned (.agg #[.int .i64 3, .string ⟨#[]⟩, .slice none 0 0, .slice none 0 0])) W2 := made_leaf (Made.leaf (by decide) (by decide) (by simp [shapeB, textB, namesB, partsB, Lib.toList_data])) (PP.out.below' HB2.out).cnt (Below.refl _ _) (Nat.le_refl _)
    obtain ⟨k5, t5, nv5, av5, he5, hz5, hone, hfin⟩ := made_store (c' := 2 * (1 + Rw.cnts pl)) (s' := 4 * (1 + Rw.cnts pl)) hleaf HB2.out hgw (by rw [hs2]; omega) HZ2.out (Nat.zero_le _) (by omega)
    injection he5 with he5
    injection he5 with he5
    rw [← he5] at hone hfin
    have HZ5 := Lib.hid hz5
    have HF := Lib.hid hfin
    clear hleaf hz5 hfin he5
    go_wp2_with (refine wpList_store_row rfl 28 _ _ rfl (w.heap.size + 1) #[.int .i64 3, .string ⟨#[]⟩, .slice none 0 0, .slice none 0 0] rfl rfl 28 Z4 HZ5.out info28 rfl hone ?_)
    refine bodyPost_ret (results_cell_row rfl _ _ (w.heap.size + 1) 28 #[.int .i64 3, .string ⟨#[]⟩, .slice none 0 0, .slice none 0 0] (0, 0) _ rfl (setRow_heap W2 _ _ _ 28 _ HZ5.out) Tryd.underlying28 rfl info28) rfl ?_
    exact HF.out
set_option maxHeartbeats 8000000 in
set_option maxRecDepth 100000 in
theorem make3 (k n : Int) (pl : List Rw) (ih : ∀ r ∈ pl, MkC r) (w0 w : World) (g m : Nat) (sc : List ByteArray) (scv : Value) (P : Pre w0 w g m sc scv) (po : Option Addr) (pc : Nat) (hm : m + 2 * (1 + Rw.cnts pl) ≤ 50000) (hR : RsAt w0 po pl) (hk : I64 k) (hn : I64 n) (hq : k % 16 = 3) :
    Calls Tryd.prog 30 #[.pointer (some ⟨g, 0, none⟩), .agg #[.int .i64 k, .int .i64 n, .slice po pl.length pc], scv] w (RetMade sc g m (2 * (1 + Rw.cnts pl)) (4 * (1 + Rw.cnts pl)) w) := by
  have hb2 : Below w.heap.size w ((w.alloc (.cells #[.int .i64 k, .int .i64 n, .slice po pl.length pc] 53)).alloc (.cells Z4 28)) := ((Below.refl w.heap.size w).alloc (Nat.le_refl _) _).alloc (by simp) _
  have hz2 : ((w.alloc (.cells #[.int .i64 k, .int .i64 n, .slice po pl.length pc] 53)).alloc (.cells Z4 28)).heap[w.heap.size + 1]? = some (.cells Z4 28 (0, 0)) := by
    have h := alloc_at (w.alloc (.cells #[.int .i64 k, .int .i64 n, .slice po pl.length pc] 53)) (.cells Z4 28)
    have e : (w.alloc (.cells #[.int .i64 k, .int .i64 n, .slice po pl.length pc] 53)).heap.size = w.heap.size + 1 := by simp
    rw [e] at h; exact h
  have hs2 : ((w.alloc (.cells #[.int .i64 k, .int .i64 n, .slice po pl.length pc] 53)).alloc (.cells Z4 28)).heap.size = w.heap.size + 2 := by simp
  have hgw := P.cnt.lt
  have HB2 := Lib.hid hb2
  have HZ2 := Lib.hid hz2
  have HRW : Hid (((w.alloc (.cells #[.int .i64 k, .int .i64 n, .slice po pl.length pc] 53)).alloc (.cells Z4 28)).heap[w.heap.size]? = some (.cells #[.int .i64 k, .int .i64 n, .slice po pl.length pc] 53 (0, 0))) := (Lib.alloc_old _ _ _ (by simp)).trans (alloc_at w _)
  obtain ⟨so, sc1, rfl⟩ := P.scope.form
  have PP := Lib.hid P
  have hfew : sc.length ≤ 60000 := by have := P.few; omega
  have F0 := Lib.hid (fun w => within_is k 16 3 hk (by decide) (by decide) hq w)
  clear ih hm hR hb2 hz2 P hq hk
  by_cases hs0 : 0 < sc.length
  · have q2 : decide ((0 : Int) < (sc.length : Int)) = true := decide_eq_true (by omega)
    have F5 := Lib.hid (fun w => within_some2 n sc.length hn hs0 hfew w)
    go_enter Tryd.func30, Tryd.ntmps30
    go_wp2_with fail
    generalize (w.alloc (.cells #[.int .i64 k, .int .i64 n, .slice po pl.length pc] 53)).alloc (.cells #[.int .i64 0, .string ⟨#[]⟩, .slice none 0 0, .slice none 0 0] 28) = W2 at HB2 HZ2 hs2 HRW ⊢
    have cK : W2.cell? ⟨w.heap.size, 0, none⟩ = some (.int .i64 k) := by rw [Lib.cell_of_heap HRW.out]; rfl
    have cN : W2.cell? ⟨w.heap.size, 1, none⟩ = some (.int .i64 n) := by rw [Lib.cell_of_heap HRW.out]; rfl
    refine (F0.out _).mono ?_
    rintro e w5 ⟨rfl, rfl⟩
    go_wp2_with fail
    refine (F5.out _).mono ?_
    rintro e w6 ⟨q, hq, rfl, rfl⟩
    have PQ := PP.out.below' HB2.out
    obtain ⟨g1, o1, rfl, hg1, e0⟩ := PQ.scope.get q hq
    have hmem := List.getElem_mem hq
    obtain ⟨x, hx⟩ : ∃ x, sc[q] = x := ⟨_, rfl⟩
    rw [hx] at e0 hmem
    have HMV : Hid (Made sc m m (.mk 5 x [] [])) := Made.var PQ.good hmem
    clear PQ hmem hx hg1
    go_wp2_with fail
    refine (var_any x _).mono ?_
    rintro e w7 ⟨rfl, hb7⟩
    have hleaf : RetMade sc g m 0 1 W2 (.returned (.agg #[.int .i64 5, .string x, .slice none 0 0, .slice none 0 0])) w7 := made_leaf HMV.out (PP.out.below' HB2.out).cnt hb7 (Nat.le_refl _)
    obtain ⟨k5, t5, nv5, av5, he5, hz5, hone, hfin⟩ := made_store (c' := 2 * (1 + Rw.cnts pl)) (s' := 4 * (1 + Rw.cnts pl)) hleaf HB2.out hgw (by rw [hs2]; omega) HZ2.out (Nat.zero_le _) (by omega)
    injection he5 with he5
    injection he5 with he5
    rw [← he5] at hone hfin
    have HZ5 := Lib.hid hz5
    have HF := Lib.hid hfin
    clear hleaf hz5 hfin he5
    go_wp2_with (refine wpList_store_row rfl 28 _ _ rfl (w.heap.size + 1) #[.int .i64 5, .string x, .slice none 0 0, .slice none 0 0] rfl rfl 28 Z4 HZ5.out info28 rfl hone ?_)
    refine bodyPost_ret (results_cell_row rfl _ _ (w.heap.size + 1) 28 #[.int .i64 5, .string x, .slice none 0 0, .slice none 0 0] (0, 0) _ rfl (setRow_heap w7 _ _ _ 28 _ HZ5.out) Tryd.underlying28 rfl info28) rfl ?_
    exact HF.out
  · obtain hsc : sc.length = 0 := by omega
    have q2 : decide ((0 : Int) < (sc.length : Int)) = false := decide_eq_false (by omega)
    go_enter Tryd.func30, Tryd.ntmps30
    go_wp2_with fail
    generalize (w.alloc (.cells #[.int .i64 k, .int .i64 n, .slice po pl.length pc] 53)).alloc (.cells #[.int .i64 0, .string ⟨#[]⟩, .slice none 0 0, .slice none 0 0] 28) = W2 at HB2 HZ2 hs2 HRW ⊢
    have cK : W2.cell? ⟨w.heap.size, 0, none⟩ = some (.int .i64 k) := by rw [Lib.cell_of_heap HRW.out]; rfl
    have cN : W2.cell? ⟨w.heap.size, 1, none⟩ = some (.int .i64 n) := by rw [Lib.cell_of_heap HRW.out]; rfl
    refine (F0.out _).mono ?_
    rintro e w5 ⟨rfl, rfl⟩
    have hleaf : RetMade sc g m 0 1 W2 (.returned (.agg #[.int .i64 3, .string ⟨#[]⟩, .slice none 0 0, .slice none 0 0])) W2 := made_leaf (Made.leaf (by decide) (by decide) (by simp [shapeB, textB, namesB, partsB, Lib.toList_data])) (PP.out.below' HB2.out).cnt (Below.refl _ _) (Nat.le_refl _)
    obtain ⟨k5, t5, nv5, av5, he5, hz5, hone, hfin⟩ := made_store (c' := 2 * (1 + Rw.cnts pl)) (s' := 4 * (1 + Rw.cnts pl)) hleaf HB2.out hgw (by rw [hs2]; omega) HZ2.out (Nat.zero_le _) (by omega)
    injection he5 with he5
    injection he5 with he5
    rw [← he5] at hone hfin
    have HZ5 := Lib.hid hz5
    have HF := Lib.hid hfin
    clear hleaf hz5 hfin he5
    go_wp2_with (refine wpList_store_row rfl 28 _ _ rfl (w.heap.size + 1) #[.int .i64 3, .string ⟨#[]⟩, .slice none 0 0, .slice none 0 0] rfl rfl 28 Z4 HZ5.out info28 rfl hone ?_)
    refine bodyPost_ret (results_cell_row rfl _ _ (w.heap.size + 1) 28 #[.int .i64 3, .string ⟨#[]⟩, .slice none 0 0, .slice none 0 0] (0, 0) _ rfl (setRow_heap W2 _ _ _ 28 _ HZ5.out) Tryd.underlying28 rfl info28) rfl ?_
    exact HF.out
end Go.Proofs.YtmcgocbkjdacaaaDoor
namespace Go.Proofs.YtmcgocbkjdacaaaDoor
open Go.RowKit Go.BigM
set_option linter.unusedVariables false
set_option linter.unusedSimpArgs false
/-- Blocks below B stay, but for two. -/
structure But2 (B g h : Nat) (w w' : World) : Prop where
  os : w'.os = w.os
  tape : w'.tape = w.tape
  output : w'.output = w.output
  size : w.heap.size ≤ w'.heap.size
  block : ∀ k, k < B → k ≠ g → k ≠ h → w'.heap[k]? = w.heap[k]?
theorem But2.refl (B g h : Nat) (w : World) : But2 B g h w w := ⟨rfl, rfl, rfl, Nat.le_refl _, fun _ _ _ _ => rfl⟩
theorem But2.trans {B g h : Nat} {a b c : World} (k : But2 B g h a b) (k2 : But2 B g h b c) : But2 B g h a c :=
  ⟨k2.os.trans k.os, k2.tape.trans k.tape, k2.output.trans k.output, Nat.le_trans k.size k2.size, fun i hi hg hh => (k2.block i hi hg hh).trans (k.block i hi hg hh)⟩
theorem But2.of {B g h : Nat} {w w' : World} (k : But B g w w') : But2 B g h w w' := ⟨k.os, k.tape, k.output, k.size, fun i hi hg _ => k.block i hi hg⟩
theorem But2.setCell {B g h : Nat} {a w : World} (k : But2 B g h a w) {p : Addr} (hp : B ≤ p.block ∨ p.block = h) (u : Value) : But2 B g h a (w.setCell p u) := by
  refine k.trans ⟨rfl, rfl, rfl, by simp [World.setCell], fun i hi hg hh => ?_⟩
  exact Below.heap_setCell w p u i (by rintro rfl; rcases hp with hp | hp <;> omega)
theorem But2.to {B B' g h : Nat} {a w : World} (k : But2 B g h a w) (hB : B' ≤ B) (hh : B' ≤ h) : But B' g a w := ⟨k.os, k.tape, k.output, k.size, fun i hi hg => k.block i (by omega) hg (by omega)⟩
theorem But.grown {B g : Nat} {a w w' : World} {row : Option Nat} (h : But B g a w) (hg : w.grownBy w' row) (hB : B ≤ w.heap.size) (hr : ∀ k, row = some k → B ≤ k) : But B g a w' :=
  h.trans ⟨hg.os, hg.tape, hg.output, hg.size, fun k hk _ => hg.block k (by omega) (fun e => by have := hr k e.symm; omega)⟩
theorem OwnA.but {B g : Nat} {w w' : World} {v : Value} {ds : List Et} (h : OwnA B w v ds) (hb : But w.heap.size g w w') (hg : g < B) : OwnA B w' v ds := by
  obtain ⟨xs, hown, hd⟩ := h
  refine ⟨xs, ⟨hown.1, ?_⟩, fun j hj => ?_⟩
  · rcases hown.2 with h | ⟨g1, cap, cur, e1, hB, hh, r⟩
    · exact .inl h
    · exact .inr ⟨g1, cap, cur, e1, hB, by rw [hb.block _ (Array.getElem?_eq_some_iff.1 hh).1 (by omega)]; exact hh, r⟩
  · obtain ⟨cs, h5, h1, h2⟩ := hd j hj
    exact ⟨cs, h5, h1, Et.At.keeps (hb.keeps fun k hk => by have : B ≤ k := hk.1; omega) _ _ h2⟩
/-- A part more: as all_more, where the part's call turned the counter. -/
theorem app_more {l : List Et} {B g : Nat} {wr w7 : World} {v : Value} {t : Et} (hown : OwnA B wr v l) (hg : g < B) (hl : l.length ≤ 100000) (hB : B ≤ wr.heap.size)
    {cs : Array Value} (hat : Et.At (fun x => wr.heap.size ≤ x) w7 t cs) (hb : But wr.heap.size g wr w7) (h4 : cs.size = 4) :
    ∃ xs, (w7.alloc (.cells cs 28)).ownsRow B 28 4 v l.length xs ∧ B ≤ (w7.alloc (.cells cs 28)).heap.size ∧ ∀ v' w9, w9.ownsRow B 28 4 v' (l.length + 1) (xs ++ cs.toList) → (w7.alloc (.cells cs 28)).grownBy w9 v.ownBlock →
      (v'.ownBlock = v.ownBlock ∨ v'.ownBlock = some (w7.alloc (.cells cs 28)).heap.size) → But B g wr w9 ∧ OwnA B w9 v' (l ++ [t]) := by
  have hs7 := hb.size
  have hb8 : But wr.heap.size g wr (w7.alloc (.cells cs 28)) := hb.alloc hb.size _
  obtain ⟨xs, hown8, hx8⟩ := OwnA.but hown hb8 hg
  have hvl : ∀ k, v.ownBlock = some k → B ≤ k ∧ k < wr.heap.size := by
    obtain ⟨ys, ho, _⟩ := hown
    exact ho.lt
  have hz8 : (w7.alloc (.cells cs 28)).heap.size = w7.heap.size + 1 := by simp
  refine ⟨xs, hown8, by rw [hz8]; omega, fun v' w9 hown9 hg9 hv9 => ?_⟩
  refine ⟨(hb8.mono hB).grown hg9 (by rw [hz8]; omega) (fun k hk => (hvl k hk).1), ?_⟩
  have hlx : xs.length = l.length * 4 := hown8.1
  refine OwnA.snoc hx8 hlx h4 ?_ hown9 hg9 hv9
  have h1 := Et.At.bound t cs hat
  have h2 := Et.At.keeps (Keeps.of_below ((Below.refl w7.heap.size w7).alloc (Nat.le_refl _) (.cells cs 28))) t cs h1
  refine Et.At.mono (fun x hx => ⟨?_, ?_⟩) t cs h2
  · have : wr.heap.size ≤ x := hx.1; omega
  · intro e
    have := (hvl x e).2
    have : wr.heap.size ≤ x := hx.1
    omega
/-- The loop: so many parts are made. -/
def LA (W0 : World) (g ge q m0 : Nat) (pl : List Rw) (sc : List ByteArray) (kk : Int) (tt : ByteArray) (nv : Value) (iv : Value) (wr : World) : Prop :=
  ∃ (i m' : Nat) (l : List Et) (av : Value), i ≤ q ∧ iv = .int .i64 (i : Int) ∧ OwnA W0.heap.size wr av l ∧ EB wr ge kk tt nv av ∧ MadeL sc m0 m' l ∧ Mk wr g m' ∧ l.length = i ∧
    Et.sizes l ≤ i + 4 * Rw.cnts (pl.take i) ∧ m' ≤ m0 + 2 * Rw.cnts (pl.take i) ∧ But2 W0.heap.size g ge W0 wr
theorem Pre.move2 {w0 w w' : World} {g ge m m' : Nat} {sc : List ByteArray} {scv : Value} (h : Pre w0 w g m sc scv) (hb : But2 w.heap.size g ge w w') (hm : Mk w' g m') (hle : m ≤ m') (hge : ∃ c fz, w.heap[ge]? = some (.cells c 28 fz)) (hgw : w0.heap.size ≤ ge) : Pre w0 w' g m' sc scv := by
  refine ⟨h.below.trans ⟨hb.os, hb.tape, hb.output, hb.size, fun k hk => hb.block k (by have := h.below.size; omega) (by have := h.maker; omega) (by omega)⟩, h.maker, hm, ?_, h.good, Nat.le_trans h.few (by omega)⟩
  rcases h.scope with hs | ⟨x, o, cap, arr, fz, e1, e2, e3, e4⟩
  · exact .inl hs
  · refine .inr ⟨x, o, cap, arr, fz, e1, e2, ?_, e4⟩
    rw [hb.block x (Array.getElem?_eq_some_iff.1 e3).1 e2 ?_]; exact e3
    rintro rfl
    obtain ⟨c, f2, h2⟩ := hge
    rw [h2] at e3
    simp at e3
/-- What a round of the loop owes: from the part's call to the store. -/
theorem LA.step {W0 : World} {g ge q m0 : Nat} {pl : List Rw} {sc : List ByteArray} {kk : Int} {tt : ByteArray} {nv : Value} {wr : World} {i m' : Nat} {l : List Et} {ao : Option Addr} {ac : Nat}
    (hiq : i < q) (hown : OwnA W0.heap.size wr (.slice ao i ac) l) (heb : EB wr ge kk tt nv (.slice ao i ac)) (hM : MadeL sc m0 m' l) (hmk : Mk wr g m') (hl : l.length = i) (hq : q ≤ 100000)
    (hsz : Et.sizes l ≤ i + 4 * Rw.cnts (pl.take i)) (hmm : m' ≤ m0 + 2 * Rw.cnts (pl.take i)) (hbut : But2 W0.heap.size g ge W0 wr) (hgb : g < W0.heap.size) (hgeb : ge < W0.heap.size) (hne : ge ≠ g)
    {w7 : World} {t : Et} {cs : Array Value} {m'' : Nat} (hat : Et.At (fun x => wr.heap.size ≤ x) w7 t cs) (h4 : cs.size = 4) (hMt : Made sc m' m'' t) (htz : t.size ≤ 1 + 4 * pcn pl i) (hm'' : m'' ≤ m' + 2 * pcn pl i) (hmk7 : Mk w7 g m'') (hb7 : But wr.heap.size g wr w7) :
    But2 W0.heap.size g ge wr w7 ∧ w7.cell? ⟨ge, 3, none⟩ = some (.slice ao i ac) ∧ But2 W0.heap.size g ge wr (w7.alloc (.cells cs 28)) ∧ (w7.alloc (.cells cs 28)).cell? ⟨ge, 3, none⟩ = some (.slice ao i ac) ∧
      ∃ xs, (w7.alloc (.cells cs 28)).ownsRow W0.heap.size 28 4 (.slice ao i ac) i xs ∧ W0.heap.size ≤ (w7.alloc (.cells cs 28)).heap.size ∧ ∀ ao' ac' w9, w9.ownsRow W0.heap.size 28 4 (.slice ao' (i + 1) ac') (i + 1) (xs ++ cs.toList) → (w7.alloc (.cells cs 28)).grownBy w9 (Value.slice ao i ac).ownBlock →
        ((Value.slice ao' (i + 1) ac').ownBlock = (Value.slice ao i ac).ownBlock ∨ (Value.slice ao' (i + 1) ac').ownBlock = some (w7.alloc (.cells cs 28)).heap.size) →
        But2 W0.heap.size g ge wr w9 ∧ w9.cell? ⟨ge, 3, none⟩ = some (.slice ao i ac) ∧ w9.frozen? ⟨ge, 3, none⟩ = false ∧ But2 W0.heap.size g ge wr (w9.setCell ⟨ge, 3, none⟩ (.slice ao' (i + 1) ac')) ∧
        LA W0 g ge q m0 pl sc kk tt nv (.int .i64 ((i : Int) + 1)) (w9.setCell ⟨ge, 3, none⟩ (.slice ao' (i + 1) ac')) := by
  have hs0 := hbut.size
  have c3 := (EB.cell _ _ _ _ _ _ heb).2.2.2
  have hgw : ge < wr.heap.size := by omega
  have c7 : w7.cell? ⟨ge, 3, none⟩ = some (.slice ao i ac) := (hb7.cell (p := ⟨ge, 3, none⟩) hgw hne).trans c3
  obtain ⟨xs, ho, hB, hc⟩ := app_more hown hgb (by omega) hs0 hat hb7 h4
  rw [hl] at ho hc
  refine ⟨But2.of (hb7.mono hs0), c7, But2.of ((hb7.alloc hb7.size _).mono hs0), cell_below ((Below.refl _ _).alloc (Nat.le_refl _) _) c7, xs, ho, hB, fun ao' ac' w9 h9 hg9 hv9 => ?_⟩
  obtain ⟨hb9, ho9⟩ := hc _ _ h9 hg9 hv9
  have heb9 : EB w9 ge kk tt nv (.slice ao i ac) := by unfold EB; rw [hb9.block ge hgeb hne]; exact heb
  have hmk9 : Mk w9 g m'' := by
    have h8 : Mk (w7.alloc (.cells cs 28)) g m'' := hmk7.below ((Below.refl _ _).alloc (Nat.le_refl _) _)
    unfold Mk at h8 ⊢
    rw [hg9.block g (by have := Array.getElem?_eq_some_iff.1 h8; exact this.1) ?_]; exact h8
    intro e
    have := (ho.lt g e.symm).1
    omega
  have htk := pcn_take pl i
  refine ⟨But2.of hb9, (EB.cell _ _ _ _ _ _ heb9).2.2.2, heb9.frozen 3, (But2.of hb9).setCell (p := ⟨ge, 3, none⟩) (.inr rfl) _, ⟨i + 1, m'', l ++ [t], _, by omega, by go_num, ho9.setCell (a := ⟨ge, 3, none⟩) hgeb _, heb9.setA _, hM.snoc hMt, ?_, by rw [List.length_append, hl]; rfl, ?_, by omega, hbut.trans ((But2.of hb9).setCell (p := ⟨ge, 3, none⟩) (.inr rfl) _)⟩⟩
  · unfold Mk; rw [heap_setCell_other w9 ⟨ge, 3, none⟩ g _ (by show g ≠ ge; omega)]; exact hmk9
  · rw [esizes_append]; simp only [Et.sizes]; omega
end Go.Proofs.YtmcgocbkjdacaaaDoor
namespace Go.Proofs.YtmcgocbkjdacaaaDoor
open Go.RowKit Go.BigM
set_option linter.unusedVariables false
set_option linter.unusedSimpArgs false
theorem run_appS (w : World) (B ty : Nat) (v : Value) (n : Nat) (xs : List Value) (hown : w.ownsRow B 9 1 v n xs) (g0 c : Nat) (news : List Value) (hl : news.length = 1)
    (hnews : ∀ j u, news[j]? = some u → w.cell? ⟨g0, j, none⟩ = some u) (h1 : ∀ u ∈ news, u.oneCell' = true) (hn : n + 1 ≤ 1000000000) (hB : B ≤ w.heap.size) :
    ∃ v' w', (Builtin.append_ #[25, 25] ty #[v, .slice (some ⟨g0, 0, none⟩) 1 c]).run Tryd.prog w = .ok v' w' ∧ w'.ownsRow B 9 1 v' (n + 1) (xs ++ news) ∧ w.grownBy w' v.ownBlock ∧ (v'.ownBlock = v.ownBlock ∨ v'.ownBlock = some w.heap.size) := by
  obtain ⟨i, hi, hz, hs, hb⟩ := info_parts infoS
  have hnews' : ∀ j u, news[j]? = some u → w.cell? ((⟨g0, 0, none⟩ : Addr).add j) = some u := by
    intro j u hu
    have e : (⟨g0, 0, none⟩ : Addr).add j = ⟨g0, j, none⟩ := by unfold Addr.add; split <;> simp_all
    rw [e]; exact hnews j u hu
  have hl1 : news.length = 1 * 1 := by omega
  obtain ⟨v', w', hr, h2, h3, _⟩ := run_append_own (P := Tryd.prog) w B 25 ty 9 i (.string ⟨#[]⟩) 1 16 Tryd.underlying25 hi hz hs hb rfl (by decide) v n xs hown ⟨g0, 0, none⟩ 1 c news hl1 hnews' h1 (by unfold maxLen; omega) (by omega) hB
  refine ⟨v', w', hr, h2, h3, ?_⟩
  have hl2 : news.length = 1 * i.size := by rw [hs]; exact hl1
  rcases hown.2 with ⟨rfl, rfl⟩ | ⟨g, cap, cur, rfl, hbg, hg, hnc, hcm, hcs, htake⟩
  · have hr2 := run_append_nil (P := Tryd.prog) w 25 ty 9 i (.string ⟨#[]⟩) Tryd.underlying25 hi hz ⟨g0, 0, none⟩ 1 c news hl2 hnews' (by decide) (by decide) (by rw [hb]; decide)
    rw [hr] at hr2
    injection hr2 with e1 e2
    right; rw [e1]; rfl
  · by_cases hroom : n + 1 ≤ cap
    · have hfit : n * i.size + news.length ≤ cur.size := by rw [hs, hl, hcs]; omega
      have hr2 := run_append_room (P := Tryd.prog) w 25 ty 9 i Tryd.underlying25 hi g n cap cur hg ⟨g0, 0, none⟩ 1 c news hl2 hnews' h1 hroom hfit
      rw [hr] at hr2
      injection hr2 with e1 e2
      left; rw [e1]; rfl
    · have hlo : xs.length = n * i.size := by rw [hs]; exact hown.1
      have hr2 := run_append_grow (P := Tryd.prog) w 25 ty 9 i (.string ⟨#[]⟩) Tryd.underlying25 hi hz ⟨g, 0, none⟩ n cap xs hlo (hown.cells (g := g) rfl) ⟨g0, 0, none⟩ 1 c news hl2 hnews' (by omega) (by omega) (growslice_fits (by omega) (by rw [hb]; omega))
      rw [hr] at hr2
      injection hr2 with e1 e2
      right; rw [e1]; rfl
theorem wp_appN2 {o : Oper} {a : Act} {w : World} {K : Act → World → Prop} {Q : Exit → Act → World → Prop} (s x : Operand)
    (ho : o.op = .call { callee := .builtin .append, args := #[s, x], argTypes := #[25, 25] }) (B : Nat) (v : Value) (L : List ByteArray) (hs : a.eval s = v) (hown : OwnN B w v L)
    (g0 : Nat) (hx : a.eval x = .slice (some ⟨g0, 0, none⟩) 1 1) (d : ByteArray) (hc : w.cell? ⟨g0, 0, none⟩ = some (.string d)) (hb : L.length ≤ 100000) (hB : B ≤ w.heap.size)
    (h : ∀ v' w', OwnN B w' v' (L ++ [d]) → w.grownBy w' v.ownBlock → (v'.ownBlock = v.ownBlock ∨ v'.ownBlock = some w.heap.size) → K (a.put o.dst v') w') : o.wp Tryd.prog a w K Q := by
  obtain ⟨v', w', hr, h2, h3, h4⟩ := run_appS w B o.type v L.length _ hown g0 1 [.string d] rfl (fun j u hu => by
    have hj : j = 0 := by
      rcases j with _ | j
      · rfl
      · simp at hu
    subst hj
    simp at hu
    subst hu
    exact hc) (fun u hu => by simp at hu; subst hu; rfl) (by omega) hB
  unfold Oper.wp execOp
  simp only [ho, resolve, invoke, builtin, Sem.run_bind, Sem.run_pure, Result.andThen_ok, List.map_toArray, List.map_cons, List.map_nil, hs, hx, hr]
  refine h v' w' ?_ h3 h4
  unfold OwnN
  rw [List.map_append, List.length_append]; exact h2
/-- A row of names copied behind an empty literal. -/
theorem wp_appNs {o : Oper} {a : Act} {w : World} {K : Act → World → Prop} {Q : Exit → Act → World → Prop} (s x : Operand)
    (ho : o.op = .call { callee := .builtin .append, args := #[s, x], argTypes := #[25, 25] }) (B g c : Nat) (hs : a.eval s = .slice (some ⟨g, 0, none⟩) 0 c) (hown : OwnN B w (.slice (some ⟨g, 0, none⟩) 0 c) [])
    {S : Nat → Prop} (u : Value) (R : List ByteArray) (hx : a.eval x = u) (hu : NAt S w u R) (hb : R.length ≤ 100000) (hB : B ≤ w.heap.size)
    (h : ∀ v' w', OwnN B w' v' R → w.grownBy w' (some g) → K (a.put o.dst v') w') : o.wp Tryd.prog a w K Q := by
  obtain ⟨i, hi, hz, hsz, hby⟩ := info_parts infoS
  rcases hu with ⟨rfl, rfl⟩ | ⟨g1, o1, cap, arr, fz, rfl, h1, h2, h3, h4⟩
  · have hr := run_append_room_src (P := Tryd.prog) w 25 25 o.type 9 i Tryd.underlying25 hi g 0 0 c (.slice none 0 0) 0 [] (Src.ofNil w Tryd.underlying25 0) (by omega) (fun j hj => by simp at hj) (fun j hj => by simp at hj)
    unfold Oper.wp execOp
    simp only [ho, resolve, invoke, builtin, Sem.run_bind, Sem.run_pure, Result.andThen_ok, List.map_toArray, List.map_cons, List.map_nil, hs, hx, List.length_nil, hr]
    exact h _ _ hown ⟨rfl, rfl, rfl, Nat.le_refl _, fun _ _ _ => rfl⟩
  · refine wp_append_own w s x 25 ho B 9 i (.string ⟨#[]⟩) 1 16 Tryd.underlying25 hi hz hsz hby rfl (by decide) _ 0 _ hs hown ⟨g1, o1, none⟩ R.length cap (R.map Value.string) hx (by simp) (fun j t hj => ?_) (fun t ht => ?_) (by unfold maxLen; omega) (by omega) hB ?_
    · have hl : j < R.length := by
        rcases Nat.lt_or_ge j R.length with h | h
        · exact h
        · rw [List.getElem?_eq_none (by simpa using h)] at hj; cases hj
      rw [List.getElem?_map, List.getElem?_eq_getElem hl] at hj
      simp only [Option.map_some, Option.some.injEq] at hj
      subst hj
      have e2 : (⟨g1, o1, none⟩ : Addr).add j = ⟨g1, o1 + j, none⟩ := by unfold Addr.add; split <;> simp_all
      rw [e2, Lib.cell_of_heap h2]; exact h3 j hl
    · obtain ⟨_, _, rfl⟩ := List.mem_map.1 ht; rfl
    · intro v' w' h5 h6 _
      refine h v' w' ?_ h6
      unfold OwnN
      simpa using h5
theorem OwnN.lit (B : Nat) (w : World) (h : B ≤ w.heap.size) : OwnN B (w.alloc (.cells #[] 9)) (.slice (some ⟨w.heap.size, 0, none⟩) 0 0) [] := by
  refine ⟨by simp, .inr ⟨w.heap.size, 0, #[], rfl, h, alloc_at w _, ?_⟩⟩
  simp [maxLen]
theorem OwnN.but {B g : Nat} {w w' : World} {v : Value} {ns : List ByteArray} (h : OwnN B w v ns) (hb : But w.heap.size g w w') (hg : g < B) : OwnN B w' v ns := by
  refine ⟨h.1, ?_⟩
  rcases h.2 with h | ⟨g1, cap, cur, e1, hB, hh, r⟩
  · exact .inl h
  · exact .inr ⟨g1, cap, cur, e1, hB, by rw [hb.block _ (Array.getElem?_eq_some_iff.1 hh).1 (by omega)]; exact hh, r⟩
theorem OwnN.lt {B : Nat} {w : World} {v : Value} {ns : List ByteArray} (h : OwnN B w v ns) {k : Nat} (hk : v.ownBlock = some k) : B ≤ k ∧ k < w.heap.size := World.ownsRow.lt h k hk
theorem OwnN.grown {B : Nat} {w w' : World} {v : Value} {ns : List ByteArray} {row : Option Nat} (h : OwnN B w v ns) (hg : w.grownBy w' row) (hr : ∀ k, v.ownBlock = some k → row ≠ some k) : OwnN B w' v ns := by
  refine ⟨h.1, ?_⟩
  rcases h.2 with h | ⟨g1, cap, cur, rfl, hB, hh, r⟩
  · exact .inl h
  · exact .inr ⟨g1, cap, cur, rfl, hB, by rw [hg.block _ (Array.getElem?_eq_some_iff.1 hh).1 (fun e => hr g1 rfl e.symm)]; exact hh, r⟩
/-- The loop: so many names are made, of the term and of what its part sees. -/
def LN (W0 : World) (g ge q m : Nat) (sc : List ByteArray) (kk : Int) (inv iv : Value) (wr : World) : Prop :=
  ∃ (i : Nat) (nv : Value), i ≤ q ∧ iv = .int .i64 (i : Int) ∧ EB wr ge kk ⟨#[]⟩ nv (.slice none 0 0) ∧ OwnN W0.heap.size wr nv (nms m (m + i)) ∧ OwnN W0.heap.size wr inv (sc ++ nms m (m + i)) ∧
    (∀ k, nv.ownBlock = some k → inv.ownBlock ≠ some k) ∧ Mk wr g (m + i) ∧ But2 W0.heap.size g ge W0 wr
/-- What a round owes, from the name's call on. -/
theorem LN.step {W0 : World} {g ge q m : Nat} {sc : List ByteArray} {kk : Int} {inv nv : Value} {wr : World} {i : Nat}
    (hiq : i < q) (heb : EB wr ge kk ⟨#[]⟩ nv (.slice none 0 0)) (hn : OwnN W0.heap.size wr nv (nms m (m + i))) (hin : OwnN W0.heap.size wr inv (sc ++ nms m (m + i)))
    (hap : ∀ k, nv.ownBlock = some k → inv.ownBlock ≠ some k) (hbut : But2 W0.heap.size g ge W0 wr) (hgb : g < W0.heap.size) (hgeb : ge < W0.heap.size) (hne : ge ≠ g)
    {w6 : World} (hmk6 : Mk w6 g (m + i + 1)) (hb6 : But wr.heap.size g wr w6) (s : ByteArray) (hs : s = nm (m + i + 1)) :
    w6.cell? ⟨ge, 2, none⟩ = some nv ∧ OwnN W0.heap.size (w6.alloc (.cells #[.string s] 9)) nv (nms m (m + i)) ∧ (w6.alloc (.cells #[.string s] 9)).cell? ⟨w6.heap.size, 0, none⟩ = some (.string s) ∧ W0.heap.size ≤ (w6.alloc (.cells #[.string s] 9)).heap.size ∧
      ∀ v' w8, OwnN W0.heap.size w8 v' (nms m (m + i) ++ [s]) → (w6.alloc (.cells #[.string s] 9)).grownBy w8 nv.ownBlock → (v'.ownBlock = nv.ownBlock ∨ v'.ownBlock = some (w6.alloc (.cells #[.string s] 9)).heap.size) →
        OwnN W0.heap.size (w8.alloc (.cells #[.string s] 9)) inv (sc ++ nms m (m + i)) ∧ (w8.alloc (.cells #[.string s] 9)).cell? ⟨w8.heap.size, 0, none⟩ = some (.string s) ∧ W0.heap.size ≤ (w8.alloc (.cells #[.string s] 9)).heap.size ∧
        ∀ v2 w10, OwnN W0.heap.size w10 v2 (sc ++ nms m (m + i) ++ [s]) → (w8.alloc (.cells #[.string s] 9)).grownBy w10 inv.ownBlock → (v2.ownBlock = inv.ownBlock ∨ v2.ownBlock = some (w8.alloc (.cells #[.string s] 9)).heap.size) →
          w10.cell? ⟨ge, 2, none⟩ = some nv ∧ w10.frozen? ⟨ge, 2, none⟩ = false ∧ LN W0 g ge q m sc kk v2 (.int .i64 ((i : Int) + 1)) (w10.setCell ⟨ge, 2, none⟩ v') := by
  have hs0 := hbut.size
  have hgw : ge < wr.heap.size := by omega
  have h6 := hb6.size
  have hn6 := hn.but hb6 hgb
  have hi6 := hin.but hb6 hgb
  have ha6 : Below w6.heap.size w6 (w6.alloc (.cells #[.string s] 9)) := (Below.refl _ _).alloc (Nat.le_refl _) _
  have z7 : (w6.alloc (.cells #[.string s] 9)).heap.size = w6.heap.size + 1 := by simp
  refine ⟨(hb6.cell (p := ⟨ge, 2, none⟩) hgw hne).trans (EB.cell _ _ _ _ _ _ heb).2.2.1, hn6.below ha6, by rw [Lib.cell_of_heap (alloc_at w6 _)]; rfl, by omega, fun v' w8 h8 hg8 hv8 => ?_⟩
  have hi8 : OwnN W0.heap.size w8 inv (sc ++ nms m (m + i)) := (hi6.below ha6).grown hg8 (fun k hk e => hap k e hk)
  have z8 := hg8.size
  have ha8 : Below w8.heap.size w8 (w8.alloc (.cells #[.string s] 9)) := (Below.refl _ _).alloc (Nat.le_refl _) _
  have z9 : (w8.alloc (.cells #[.string s] 9)).heap.size = w8.heap.size + 1 := by simp
  refine ⟨hi8.below ha8, by rw [Lib.cell_of_heap (alloc_at w8 _)]; rfl, by omega, fun v2 w10 h10 hg10 hv10 => ?_⟩
  have hb8 : But W0.heap.size g wr w8 := ((hb6.alloc h6 _).mono hs0).grown hg8 (by omega) (fun k hk => (hn.lt hk).1)
  have hb10 : But W0.heap.size g wr w10 := (hb8.alloc (by omega) _).grown hg10 (by omega) (fun k hk => (hin.lt hk).1)
  have heb10 : EB w10 ge kk ⟨#[]⟩ nv (.slice none 0 0) := by unfold EB; rw [hb10.block ge hgeb hne]; exact heb
  have hap1 : ∀ k, v'.ownBlock = some k → inv.ownBlock ≠ some k := by
    intro k hk e
    rcases hv8 with hv | hv
    · exact hap k (hv.symm.trans hk) e
    · rw [hv] at hk
      injection hk with hk
      have := (hin.lt e).2
      omega
  have h8' : OwnN W0.heap.size w10 v' (nms m (m + i) ++ [s]) := (h8.below ha8).grown hg10 (fun k hk e => hap1 k hk e)
  have hmk10 : Mk w10 g (m + i + 1) := by
    have a1 : Mk (w6.alloc (.cells #[.string s] 9)) g (m + i + 1) := hmk6.below ha6
    have a2 : Mk w8 g (m + i + 1) := by
      unfold Mk at a1 ⊢
      rw [hg8.block g (by have := Array.getElem?_eq_some_iff.1 a1; exact this.1) (fun e => by have := (hn.lt e.symm).1; omega)]; exact a1
    have a3 : Mk (w8.alloc (.cells #[.string s] 9)) g (m + i + 1) := a2.below ha8
    unfold Mk at a3 ⊢
    rw [hg10.block g (by have := Array.getElem?_eq_some_iff.1 a3; exact this.1) (fun e => by have := (hin.lt e.symm).1; omega)]; exact a3
  have e1 : nms m (m + i) ++ [s] = nms m (m + (i + 1)) := by rw [hs]; exact (nms_succ m (m + i) (by omega)).symm
  have e2 : sc ++ nms m (m + i) ++ [s] = sc ++ nms m (m + (i + 1)) := by rw [List.append_assoc, e1]
  rw [e1] at h8'
  rw [e2] at h10
  refine ⟨(EB.cell _ _ _ _ _ _ heb10).2.2.1, heb10.frozen 2, i + 1, v', by omega, by go_num, heb10.setN _, h8'.setCell (a := ⟨ge, 2, none⟩) hgeb _, h10.setCell (a := ⟨ge, 2, none⟩) hgeb _, ?_, ?_, hbut.trans ((But2.of hb10).setCell (p := ⟨ge, 2, none⟩) (.inr rfl) _)⟩
  · intro k hk e
    rcases hv10 with hv | hv
    · exact hap1 k hk (hv.symm.trans e)
    · rw [hv] at e
      injection e with e
      have := (h8.lt hk).2
      omega
  · unfold Mk; rw [heap_setCell_other w10 ⟨ge, 2, none⟩ g _ (by show g ≠ ge; omega)]; exact hmk10
end Go.Proofs.YtmcgocbkjdacaaaDoor
