/- Make, at raw terms without parts. -/
import Derived.Test.YtcalbcllmmoldaaMK1
namespace Go.Proofs.Ytcalbcllmmoldaa
open Go.RowKit Go.BigM
set_option linter.unusedVariables false
set_option linter.unusedSimpArgs false
def intT : List ByteArray := [⟨#[48]⟩, ⟨#[49]⟩, ⟨#[45, 53]⟩, ⟨#[55]⟩, ⟨#[49, 48, 48, 48, 48, 48, 48, 48, 48, 48, 48, 48, 48, 48, 48, 48, 48, 48, 48, 48, 48]⟩]
theorem intT_num (i : Nat) (h : i < 5) : (intT.getD i ⟨#[]⟩).size ≤ 100 ∧ num (intT.getD i ⟨#[]⟩) = true := by
  match i, h with
  | 0, _ => decide
  | 1, _ => decide
  | 2, _ => decide
  | 3, _ => decide
  | 4, _ => decide
  | n + 5, h => exact absurd h (by omega)
set_option maxHeartbeats 8000000 in
set_option maxRecDepth 100000 in
theorem make0 (k n : Int) (pl : List Rw) (ih : ∀ r ∈ pl, MkC r) (w0 w : World) (g m : Nat) (sc : List ByteArray) (scv : Value) (P : Pre w0 w g m sc scv) (po : Option Addr) (pc : Nat) (hm : m + 2 * (1 + Rw.cnts pl) ≤ 50000) (hR : RsAt w0 po pl) (hk : I64 k) (hn : I64 n) (hq : k % 16 = 0) :
    Calls Try.prog 27 #[.pointer (some ⟨g, 0, none⟩), .agg #[.int .i64 k, .int .i64 n, .slice po pl.length pc], scv] w (RetMade sc g m (2 * (1 + Rw.cnts pl)) (4 * (1 + Rw.cnts pl)) w) := by
  have hb2 : Below w.heap.size w ((w.alloc (.cells #[.int .i64 k, .int .i64 n, .slice po pl.length pc] 44)).alloc (.cells Z4 28)) := ((Below.refl w.heap.size w).alloc (Nat.le_refl _) _).alloc (by simp) _
  have hz2 : ((w.alloc (.cells #[.int .i64 k, .int .i64 n, .slice po pl.length pc] 44)).alloc (.cells Z4 28)).heap[w.heap.size + 1]? = some (.cells Z4 28 (0, 0)) := by
    have h := alloc_at (w.alloc (.cells #[.int .i64 k, .int .i64 n, .slice po pl.length pc] 44)) (.cells Z4 28)
    have e : (w.alloc (.cells #[.int .i64 k, .int .i64 n, .slice po pl.length pc] 44)).heap.size = w.heap.size + 1 := by simp
    rw [e] at h; exact h
  have hs2 : ((w.alloc (.cells #[.int .i64 k, .int .i64 n, .slice po pl.length pc] 44)).alloc (.cells Z4 28)).heap.size = w.heap.size + 2 := by simp
  have hgw := P.cnt.lt
  have HB2 := Lib.hid hb2
  have HZ2 := Lib.hid hz2
  have HRW : Hid (((w.alloc (.cells #[.int .i64 k, .int .i64 n, .slice po pl.length pc] 44)).alloc (.cells Z4 28)).heap[w.heap.size]? = some (.cells #[.int .i64 k, .int .i64 n, .slice po pl.length pc] 44 (0, 0))) := (Lib.alloc_old _ _ _ (by simp)).trans (alloc_at w _)
  obtain ⟨so, sc1, rfl⟩ := P.scope.form
  have PP := Lib.hid P
  have hfew : sc.length ≤ 60000 := by have := P.few; omega
  have F0 := Lib.hid (fun w => within_is k 16 0 hk (by decide) (by decide) hq w)
  have F5 := Lib.hid (fun w => within_some n 5 hn (by decide) (by decide) w)
  have CST : ∀ W : World, W.alloc (.cells #[.string ⟨#[48]⟩, .string ⟨#[49]⟩, .string ⟨#[45, 53]⟩, .string ⟨#[55]⟩, .string ⟨#[49, 48, 48, 48, 48, 48, 48, 48, 48, 48, 48, 48, 48, 48, 48, 48, 48, 48, 48, 48, 48]⟩] 9) = W.alloc (.cells (tcells intT) 9) := fun _ => rfl
  have HCS := Lib.hid CST
  clear ih hm hR CST hb2 hz2 P hq hk hn
  go_enter Try.func27, Try.ntmps27
  go_wp2_with fail
  generalize (w.alloc (.cells #[.int .i64 k, .int .i64 n, .slice po pl.length pc] 44)).alloc (.cells #[.int .i64 0, .string ⟨#[]⟩, .slice none 0 0, .slice none 0 0] 28) = W2 at HB2 HZ2 hs2 HRW ⊢
  have cK : W2.cell? ⟨w.heap.size, 0, none⟩ = some (.int .i64 k) := by rw [Lib.cell_of_heap HRW.out]; rfl
  have cN : W2.cell? ⟨w.heap.size, 1, none⟩ = some (.int .i64 n) := by rw [Lib.cell_of_heap HRW.out]; rfl
  have cN2 : (W2.alloc (.cells (tcells intT) 9)).cell? ⟨w.heap.size, 1, none⟩ = some (.int .i64 n) := cell_below ((Below.refl _ _).alloc (Nat.le_refl _) _) cN
  refine (F0.out _).mono ?_
  rintro e w5 ⟨rfl, rfl⟩
  go_wp2_with fail
  rw [HCS.out]
  have hb3 : Below W2.heap.size W2 (W2.alloc (.cells (tcells intT) 9)) := (Below.refl _ _).alloc (Nat.le_refl _) _
  have hg3 := alloc_at W2 (.cells (tcells intT) 9)
  generalize W2.alloc (.cells (tcells intT) 9) = W3 at hb3 hg3 cN2 ⊢
  refine (F5.out _).mono ?_
  rintro e w6 ⟨q, hq, rfl, rfl⟩
  have e0 := tcells_get _ _ intT hg3 q hq
  rw [hs2] at e0
  obtain ⟨x, hx⟩ : ∃ x, intT.getD q ⟨#[]⟩ = x := ⟨_, rfl⟩
  have hxn := intT_num q hq
  rw [hx] at e0 hxn
  clear hx
  have hleaf : RetMade sc g m 0 1 W2 (.returned (.agg #[.int .i64 1, .string x, .slice none 0 0, .slice none 0 0])) W3 := made_leaf (Made.leaf hxn.1 (by decide) (by simp [shapeB, textB, namesB, partsB, hxn.2])) (PP.out.below' HB2.out).cnt hb3 (Nat.le_refl _)
  obtain ⟨k5, t5, nv5, av5, he5, hz5, hone, hfin⟩ := made_store (c' := 2 * (1 + Rw.cnts pl)) (s' := 4 * (1 + Rw.cnts pl)) hleaf HB2.out hgw (by rw [hs2]; omega) HZ2.out (Nat.zero_le _) (by omega)
  injection he5 with he5
  injection he5 with he5
  rw [← he5] at hone hfin
  have HZ5 := Lib.hid hz5
  have HF := Lib.hid hfin
  clear hleaf hz5 hfin he5
  go_wp2_with (refine wpList_store_row rfl 28 _ _ rfl (w.heap.size + 1) #[.int .i64 1, .string x, .slice none 0 0, .slice none 0 0] rfl rfl 28 Z4 HZ5.out info28 rfl hone ?_)
  refine bodyPost_ret (results_cell_row rfl _ _ (w.heap.size + 1) 28 #[.int .i64 1, .string x, .slice none 0 0, .slice none 0 0] (0, 0) _ rfl (setRow_heap W3 _ _ _ 28 _ HZ5.out) Try.underlying28 rfl info28) rfl ?_
  exact HF.out
set_option maxHeartbeats 8000000 in
set_option maxRecDepth 100000 in
theorem make1 (k n : Int) (pl : List Rw) (ih : ∀ r ∈ pl, MkC r) (w0 w : World) (g m : Nat) (sc : List ByteArray) (scv : Value) (P : Pre w0 w g m sc scv) (po : Option Addr) (pc : Nat) (hm : m + 2 * (1 + Rw.cnts pl) ≤ 50000) (hR : RsAt w0 po pl) (hk : I64 k) (hn : I64 n) (hq : k % 16 = 1) :
    Calls Try.prog 27 #[.pointer (some ⟨g, 0, none⟩), .agg #[.int .i64 k, .int .i64 n, .slice po pl.length pc], scv] w (RetMade sc g m (2 * (1 + Rw.cnts pl)) (4 * (1 + Rw.cnts pl)) w) := by
  have hb2 : Below w.heap.size w ((w.alloc (.cells #[.int .i64 k, .int .i64 n, .slice po pl.length pc] 44)).alloc (.cells Z4 28)) := ((Below.refl w.heap.size w).alloc (Nat.le_refl _) _).alloc (by simp) _
  have hz2 : ((w.alloc (.cells #[.int .i64 k, .int .i64 n, .slice po pl.length pc] 44)).alloc (.cells Z4 28)).heap[w.heap.size + 1]? = some (.cells Z4 28 (0, 0)) := by
    have h := alloc_at (w.alloc (.cells #[.int .i64 k, .int .i64 n, .slice po pl.length pc] 44)) (.cells Z4 28)
    have e : (w.alloc (.cells #[.int .i64 k, .int .i64 n, .slice po pl.length pc] 44)).heap.size = w.heap.size + 1 := by simp
    rw [e] at h; exact h
  have hs2 : ((w.alloc (.cells #[.int .i64 k, .int .i64 n, .slice po pl.length pc] 44)).alloc (.cells Z4 28)).heap.size = w.heap.size + 2 := by simp
  have hgw := P.cnt.lt
  have HB2 := Lib.hid hb2
  have HZ2 := Lib.hid hz2
  have HRW : Hid (((w.alloc (.cells #[.int .i64 k, .int .i64 n, .slice po pl.length pc] 44)).alloc (.cells Z4 28)).heap[w.heap.size]? = some (.cells #[.int .i64 k, .int .i64 n, .slice po pl.length pc] 44 (0, 0))) := (Lib.alloc_old _ _ _ (by simp)).trans (alloc_at w _)
  obtain ⟨so, sc1, rfl⟩ := P.scope.form
  have PP := Lib.hid P
  have hfew : sc.length ≤ 60000 := by have := P.few; omega
  have F0 := Lib.hid (fun w => within_is k 16 1 hk (by decide) (by decide) hq w)
  obtain ⟨s, hs⟩ : ∃ s : Nat, n % 4 = (s : Int) := ⟨(n % 4).toNat, by omega⟩
  have hs4 : s < 4 := by omega
  have F5 := Lib.hid (fun w => within_is n 4 s hn (by decide) (by decide) hs w)
  clear ih hm hR hb2 hz2 P hq hk hn hs
  go_enter Try.func27, Try.ntmps27
  go_wp2_with fail
  generalize (w.alloc (.cells #[.int .i64 k, .int .i64 n, .slice po pl.length pc] 44)).alloc (.cells #[.int .i64 0, .string ⟨#[]⟩, .slice none 0 0, .slice none 0 0] 28) = W2 at HB2 HZ2 hs2 HRW ⊢
  have cK : W2.cell? ⟨w.heap.size, 0, none⟩ = some (.int .i64 k) := by rw [Lib.cell_of_heap HRW.out]; rfl
  have cN : W2.cell? ⟨w.heap.size, 1, none⟩ = some (.int .i64 n) := by rw [Lib.cell_of_heap HRW.out]; rfl
  obtain ⟨W3, hW3⟩ : ∃ W3, W3 = W2.alloc (.cells #[.int .i64 2, .string ⟨#[35, 116]⟩, .slice none 0 0, .slice none 0 0, .int .i64 2, .string ⟨#[35, 102]⟩, .slice none 0 0, .slice none 0 0, .int .i64 3, .string ⟨#[]⟩, .slice none 0 0, .slice none 0 0, .int .i64 4, .string ⟨#[115]⟩, .slice none 0 0, .slice none 0 0] 28) := ⟨_, rfl⟩
  have hb3 : Below W2.heap.size W2 W3 := by rw [hW3]; exact (Below.refl _ _).alloc (Nat.le_refl _) _
  have hg3 : W3.heap[w.heap.size + 2]? = some (.cells #[.int .i64 2, .string ⟨#[35, 116]⟩, .slice none 0 0, .slice none 0 0, .int .i64 2, .string ⟨#[35, 102]⟩, .slice none 0 0, .slice none 0 0, .int .i64 3, .string ⟨#[]⟩, .slice none 0 0, .slice none 0 0, .int .i64 4, .string ⟨#[115]⟩, .slice none 0 0, .slice none 0 0] 28 (0, 0)) := by rw [hW3, ← hs2]; exact alloc_at W2 _
  have cN2 : W3.cell? ⟨w.heap.size, 1, none⟩ = some (.int .i64 n) := cell_below hb3 cN
  have HW3 := Lib.hid hW3.symm
  clear hW3
  refine (F0.out _).mono ?_
  rintro e w5 ⟨rfl, rfl⟩
  go_wp2_with fail
  rw [HW3.out]
  refine (F5.out _).mono ?_
  rintro e w6 ⟨rfl, rfl⟩
  clear HW3
  match s, hs4 with
  | 0, _ =>
    have d0 : W3.cell? ⟨w.heap.size + 2, 0, none⟩ = some (.int .i64 2) := by rw [Lib.cell_of_heap hg3]; rfl
    have d1 : W3.cell? ⟨w.heap.size + 2, 1, none⟩ = some (.string ⟨#[35, 116]⟩) := by rw [Lib.cell_of_heap hg3]; rfl
    have d2 : W3.cell? ⟨w.heap.size + 2, 2, none⟩ = some (.slice none 0 0) := by rw [Lib.cell_of_heap hg3]; rfl
    have d3 : W3.cell? ⟨w.heap.size + 2, 3, none⟩ = some (.slice none 0 0) := by rw [Lib.cell_of_heap hg3]; rfl
    clear hg3
    have hleaf : RetMade sc g m 0 1 W2 (.returned (.agg #[.int .i64 2, .string ⟨#[35, 116]⟩, .slice none 0 0, .slice none 0 0])) W3 := made_leaf (Made.leaf (by decide) (by decide) (by simp [shapeB, textB, namesB, partsB, Lib.toList_data])) (PP.out.below' HB2.out).cnt hb3 (Nat.le_refl _)
    obtain ⟨k5, t5, nv5, av5, he5, hz5, hone, hfin⟩ := made_store (c' := 2 * (1 + Rw.cnts pl)) (s' := 4 * (1 + Rw.cnts pl)) hleaf HB2.out hgw (by rw [hs2]; omega) HZ2.out (Nat.zero_le _) (by omega)
    injection he5 with he5
    injection he5 with he5
    rw [← he5] at hone hfin
    have HZ5 := Lib.hid hz5
    have HF := Lib.hid hfin
    clear hleaf hz5 hfin he5
    go_wp2_with (refine wpList_store_row rfl 28 _ _ rfl (w.heap.size + 1) #[.int .i64 2, .string ⟨#[35, 116]⟩, .slice none 0 0, .slice none 0 0] rfl rfl 28 Z4 HZ5.out info28 rfl hone ?_)
    refine bodyPost_ret (results_cell_row rfl _ _ (w.heap.size + 1) 28 #[.int .i64 2, .string ⟨#[35, 116]⟩, .slice none 0 0, .slice none 0 0] (0, 0) _ rfl (setRow_heap W3 _ _ _ 28 _ HZ5.out) Try.underlying28 rfl info28) rfl ?_
    exact HF.out
  | 1, _ =>
    have d0 : W3.cell? ⟨w.heap.size + 2, 4, none⟩ = some (.int .i64 2) := by rw [Lib.cell_of_heap hg3]; rfl
    have d1 : W3.cell? ⟨w.heap.size + 2, 5, none⟩ = some (.string ⟨#[35, 102]⟩) := by rw [Lib.cell_of_heap hg3]; rfl
    have d2 : W3.cell? ⟨w.heap.size + 2, 6, none⟩ = some (.slice none 0 0) := by rw [Lib.cell_of_heap hg3]; rfl
    have d3 : W3.cell? ⟨w.heap.size + 2, 7, none⟩ = some (.slice none 0 0) := by rw [Lib.cell_of_heap hg3]; rfl
    clear hg3
    have hleaf : RetMade sc g m 0 1 W2 (.returned (.agg #[.int .i64 2, .string ⟨#[35, 102]⟩, .slice none 0 0, .slice none 0 0])) W3 := made_leaf (Made.leaf (by decide) (by decide) (by simp [shapeB, textB, namesB, partsB, Lib.toList_data])) (PP.out.below' HB2.out).cnt hb3 (Nat.le_refl _)
    obtain ⟨k5, t5, nv5, av5, he5, hz5, hone, hfin⟩ := made_store (c' := 2 * (1 + Rw.cnts pl)) (s' := 4 * (1 + Rw.cnts pl)) hleaf HB2.out hgw (by rw [hs2]; omega) HZ2.out (Nat.zero_le _) (by omega)
    injection he5 with he5
    injection he5 with he5
    rw [← he5] at hone hfin
    have HZ5 := Lib.hid hz5
    have HF := Lib.hid hfin
    clear hleaf hz5 hfin he5
    go_wp2_with (refine wpList_store_row rfl 28 _ _ rfl (w.heap.size + 1) #[.int .i64 2, .string ⟨#[35, 102]⟩, .slice none 0 0, .slice none 0 0] rfl rfl 28 Z4 HZ5.out info28 rfl hone ?_)
    refine bodyPost_ret (results_cell_row rfl _ _ (w.heap.size + 1) 28 #[.int .i64 2, .string ⟨#[35, 102]⟩, .slice none 0 0, .slice none 0 0] (0, 0) _ rfl (setRow_heap W3 _ _ _ 28 _ HZ5.out) Try.underlying28 rfl info28) rfl ?_
    exact HF.out
  | 2, _ =>
    have d0 : W3.cell? ⟨w.heap.size + 2, 8, none⟩ = some (.int .i64 3) := by rw [Lib.cell_of_heap hg3]; rfl
    have d1 : W3.cell? ⟨w.heap.size + 2, 9, none⟩ = some (.string ⟨#[]⟩) := by rw [Lib.cell_of_heap hg3]; rfl
    have d2 : W3.cell? ⟨w.heap.size + 2, 10, none⟩ = some (.slice none 0 0) := by rw [Lib.cell_of_heap hg3]; rfl
    have d3 : W3.cell? ⟨w.heap.size + 2, 11, none⟩ = some (.slice none 0 0) := by rw [Lib.cell_of_heap hg3]; rfl
    clear hg3
    have hleaf : RetMade sc g m 0 1 W2 (.returned (.agg #[.int .i64 3, .string ⟨#[]⟩, .slice none 0 0, .slice none 0 0])) W3 := made_leaf (Made.leaf (by decide) (by decide) (by simp [shapeB, textB, namesB, partsB, Lib.toList_data])) (PP.out.below' HB2.out).cnt hb3 (Nat.le_refl _)
    obtain ⟨k5, t5, nv5, av5, he5, hz5, hone, hfin⟩ := made_store (c' := 2 * (1 + Rw.cnts pl)) (s' := 4 * (1 + Rw.cnts pl)) hleaf HB2.out hgw (by rw [hs2]; omega) HZ2.out (Nat.zero_le _) (by omega)
    injection he5 with he5
    injection he5 with he5
    rw [← he5] at hone hfin
    have HZ5 := Lib.hid hz5
    have HF := Lib.hid hfin
    clear hleaf hz5 hfin he5
    go_wp2_with (refine wpList_store_row rfl 28 _ _ rfl (w.heap.size + 1) #[.int .i64 3, .string ⟨#[]⟩, .slice none 0 0, .slice none 0 0] rfl rfl 28 Z4 HZ5.out info28 rfl hone ?_)
    refine bodyPost_ret (results_cell_row rfl _ _ (w.heap.size + 1) 28 #[.int .i64 3, .string ⟨#[]⟩, .slice none 0 0, .slice none 0 0] (0, 0) _ rfl (setRow_heap W3 _ _ _ 28 _ HZ5.out) Try.underlying28 rfl info28) rfl ?_
    exact HF.out
  | 3, _ =>
    have d0 : W3.cell? ⟨w.heap.size + 2, 12, none⟩ = some (.int .i64 4) := by rw [Lib.cell_of_heap hg3]; rfl
    have d1 : W3.cell? ⟨w.heap.size + 2, 13, none⟩ = some (.string ⟨#[115]⟩) := by rw [Lib.cell_of_heap hg3]; rfl
    have d2 : W3.cell? ⟨w.heap.size + 2, 14, none⟩ = some (.slice none 0 0) := by rw [Lib.cell_of_heap hg3]; rfl
    have d3 : W3.cell? ⟨w.heap.size + 2, 15, none⟩ = some (.slice none 0 0) := by rw [Lib.cell_of_heap hg3]; rfl
    clear hg3
    have hleaf : RetMade sc g m 0 1 W2 (.returned (.agg #[.int .i64 4, .string ⟨#[115]⟩, .slice none 0 0, .slice none 0 0])) W3 := made_leaf (Made.leaf (by decide) (by decide) (by simp [shapeB, textB, namesB, partsB, Lib.toList_data])) (PP.out.below' HB2.out).cnt hb3 (Nat.le_refl _)
    obtain ⟨k5, t5, nv5, av5, he5, hz5, hone, hfin⟩ := made_store (c' := 2 * (1 + Rw.cnts pl)) (s' := 4 * (1 + Rw.cnts pl)) hleaf HB2.out hgw (by rw [hs2]; omega) HZ2.out (Nat.zero_le _) (by omega)
    injection he5 with he5
    injection he5 with he5
    rw [← he5] at hone hfin
    have HZ5 := Lib.hid hz5
    have HF := Lib.hid hfin
    clear hleaf hz5 hfin he5
    go_wp2_with (refine wpList_store_row rfl 28 _ _ rfl (w.heap.size + 1) #[.int .i64 4, .string ⟨#[115]⟩, .slice none 0 0, .slice none 0 0] rfl rfl 28 Z4 HZ5.out info28 rfl hone ?_)
    refine bodyPost_ret (results_cell_row rfl _ _ (w.heap.size + 1) 28 #[.int .i64 4, .string ⟨#[115]⟩, .slice none 0 0, .slice none 0 0] (0, 0) _ rfl (setRow_heap W3 _ _ _ 28 _ HZ5.out) Try.underlying28 rfl info28) rfl ?_
    exact HF.out
  | z + 4, h => exact absurd h (by omega)
set_option maxHeartbeats 8000000 in
set_option maxRecDepth 100000 in
theorem make2 (k n : Int) (pl : List Rw) (ih : ∀ r ∈ pl, MkC r) (w0 w : World) (g m : Nat) (sc : List ByteArray) (scv : Value) (P : Pre w0 w g m sc scv) (po : Option Addr) (pc : Nat) (hm : m + 2 * (1 + Rw.cnts pl) ≤ 50000) (hR : RsAt w0 po pl) (hk : I64 k) (hn : I64 n) (hq : k % 16 = 2) :
    Calls Try.prog 27 #[.pointer (some ⟨g, 0, none⟩), .agg #[.int .i64 k, .int .i64 n, .slice po pl.length pc], scv] w (RetMade sc g m (2 * (1 + Rw.cnts pl)) (4 * (1 + Rw.cnts pl)) w) := by
  have hb2 : Below w.heap.size w ((w.alloc (.cells #[.int .i64 k, .int .i64 n, .slice po pl.length pc] 44)).alloc (.cells Z4 28)) := ((Below.refl w.heap.size w).alloc (Nat.le_refl _) _).alloc (by simp) _
  have hz2 : ((w.alloc (.cells #[.int .i64 k, .int .i64 n, .slice po pl.length pc] 44)).alloc (.cells Z4 28)).heap[w.heap.size + 1]? = some (.cells Z4 28 (0, 0)) := by
    have h := alloc_at (w.alloc (.cells #[.int .i64 k, .int .i64 n, .slice po pl.length pc] 44)) (.cells Z4 28)
    have e : (w.alloc (.cells #[.int .i64 k, .int .i64 n, .slice po pl.length pc] 44)).heap.size = w.heap.size + 1 := by simp
    rw [e] at h; exact h
  have hs2 : ((w.alloc (.cells #[.int .i64 k, .int .i64 n, .slice po pl.length pc] 44)).alloc (.cells Z4 28)).heap.size = w.heap.size + 2 := by simp
  have hgw := P.cnt.lt
  have HB2 := Lib.hid hb2
  have HZ2 := Lib.hid hz2
  have HRW : Hid (((w.alloc (.cells #[.int .i64 k, .int .i64 n, .slice po pl.length pc] 44)).alloc (.cells Z4 28)).heap[w.heap.size]? = some (.cells #[.int .i64 k, .int .i64 n, .slice po pl.length pc] 44 (0, 0))) := (Lib.alloc_old _ _ _ (by simp)).trans (alloc_at w _)
  obtain ⟨so, sc1, rfl⟩ := P.scope.form
  have PP := Lib.hid P
  have hfew : sc.length ≤ 60000 := by have := P.few; omega
  have F0 := Lib.hid (fun w => within_is k 16 2 hk (by decide) (by decide) hq w)
  clear ih hm hR hb2 hz2 P hq hk
  by_cases hs0 : 0 < sc.length
  · have q2 : decide ((0 : Int) < (sc.length : Int)) = true := decide_eq_true (by omega)
    have F5 := Lib.hid (fun w => within_some2 n sc.length hn hs0 hfew w)
    go_enter Try.func27, Try.ntmps27
    go_wp2_with fail
    generalize (w.alloc (.cells #[.int .i64 k, .int .i64 n, .slice po pl.length pc] 44)).alloc (.cells #[.int .i64 0, .string ⟨#[]⟩, .slice none 0 0, .slice none 0 0] 28) = W2 at HB2 HZ2 hs2 HRW ⊢
    have cK : W2.cell? ⟨w.heap.size, 0, none⟩ = some (.int .i64 k) := by rw [Lib.cell_of_heap HRW.out]; rfl
    have cN : W2.cell? ⟨w.heap.size, 1, none⟩ = some (.int .i64 n) := by rw [Lib.cell_of_heap HRW.out]; rfl
    refine (F0.out _).mono ?_
    rintro e w5 ⟨rfl, rfl⟩
    go_wp2_with fail
    refine (F5.out _).mono ?_
    rintro e w6 ⟨q, hq, rfl, rfl⟩
    have PQ := PP.out.below' HB2.out
    obtain ⟨g1, o1, rfl, hg1, e0⟩ := PQ.scope.get q hq
    have hmem := List.getElem_mem hq
    obtain ⟨x, hx⟩ : ∃ x, sc[q] = x := ⟨_, rfl⟩
    rw [hx] at e0 hmem
    have HMV : Hid (Made sc m m (.mk 5 x [] [])) := Made.var PQ.good hmem
    clear PQ hmem hx hg1
    go_wp2_with fail
    refine (var_any x _).mono ?_
    rintro e w7 ⟨rfl, hb7⟩
    have hleaf : RetMade sc g m 0 1 W2 (.returned (.agg #[.int .i64 5, .string x, .slice none 0 0, .slice none 0 0])) w7 := made_leaf HMV.out (PP.out.below' HB2.out).cnt hb7 (Nat.le_refl _)
    obtain ⟨k5, t5, nv5, av5, he5, hz5, hone, hfin⟩ := made_store (c' := 2 * (1 + Rw.cnts pl)) (s' := 4 * (1 + Rw.cnts pl)) hleaf HB2.out hgw (by rw [hs2]; omega) HZ2.out (Nat.zero_le _) (by omega)
    injection he5 with he5
    injection he5 with he5
    rw [← he5] at hone hfin
    have HZ5 := Lib.hid hz5
    have HF := Lib.hid hfin
    clear hleaf hz5 hfin he5
    go_wp2_with (refine wpList_store_row rfl 28 _ _ rfl (w.heap.size + 1) #[.int .i64 5, .string x, .slice none 0 0, .slice none 0 0] rfl rfl 28 Z4 HZ5.out info28 rfl hone ?_)
    refine bodyPost_ret (results_cell_row rfl _ _ (w.heap.size + 1) 28 #[.int .i64 5, .string x, .slice none 0 0, .slice none 0 0] (0, 0) _ rfl (setRow_heap w7 _ _ _ 28 _ HZ5.out) Try.underlying28 rfl info28) rfl ?_
    exact HF.out
  · obtain hsc : sc.length = 0 := by omega
    have q2 : decide ((0 : Int) < (sc.length : Int)) = false := decide_eq_false (by omega)
    go_enter Try.func27, Try.ntmps27
    go_wp2_with fail
    generalize (w.alloc (.cells #[.int .i64 k, .int .i64 n, .slice po pl.length pc] 44)).alloc (.cells #[.int .i64 0, .string ⟨#[]⟩, .slice none 0 0, .slice none 0 0] 28) = W2 at HB2 HZ2 hs2 HRW ⊢
    have cK : W2.cell? ⟨w.heap.size, 0, none⟩ = some (.int .i64 k) := by rw [Lib.cell_of_heap HRW.out]; rfl
    have cN : W2.cell? ⟨w.heap.size, 1, none⟩ = some (.int .i64 n) := by rw [Lib.cell_of_heap HRW.out]; rfl
    refine (F0.out _).mono ?_
    rintro e w5 ⟨rfl, rfl⟩
    have hleaf : RetMade sc g m 0 1 W2 (.returned (.agg #[.int .i64 3, .string ⟨#[]⟩, .slice none 0 0, .slice none 0 0])) W2 := made_leaf (Made.leaf (by decide) (by decide) (by simp [shapeB, textB, namesB, partsB, Lib.toList_data])) (PP.out.below' HB2.out).cnt (Below.refl _ _) (Nat.le_refl _)
    obtain ⟨k5, t5, nv5, av5, he5, hz5, hone, hfin⟩ := made_store (c' := 2 * (1 + Rw.cnts pl)) (s' := 4 * (1 + Rw.cnts pl)) hleaf HB2.out hgw (by rw [hs2]; omega) HZ2.out (Nat.zero_le _) (by omega)
    injection he5 with he5
    injection he5 with he5
    rw [← he5] at hone hfin
    have HZ5 := Lib.hid hz5
    have HF := Lib.hid hfin
    clear hleaf hz5 hfin he5
    go_wp2_with (refine wpList_store_row rfl 28 _ _ rfl (w.heap.size + 1) #[.int .i64 3, .string ⟨#[]⟩, .slice none 0 0, .slice none 0 0] rfl rfl 28 Z4 HZ5.out info28 rfl hone ?_)
    refine bodyPost_ret (results_cell_row rfl _ _ (w.heap.size + 1) 28 #[.int .i64 3, .string ⟨#[]⟩, .slice none 0 0, .slice none 0 0] (0, 0) _ rfl (setRow_heap W2 _ _ _ 28 _ HZ5.out) Try.underlying28 rfl info28) rfl ?_
    exact HF.out
set_option maxHeartbeats 8000000 in
set_option maxRecDepth 100000 in
theorem make3 (k n : Int) (pl : List Rw) (ih : ∀ r ∈ pl, MkC r) (w0 w : World) (g m : Nat) (sc : List ByteArray) (scv : Value) (P : Pre w0 w g m sc scv) (po : Option Addr) (pc : Nat) (hm : m + 2 * (1 + Rw.cnts pl) ≤ 50000) (hR : RsAt w0 po pl) (hk : I64 k) (hn : I64 n) (hq : k % 16 = 3) :
    Calls Try.prog 27 #[.pointer (some ⟨g, 0, none⟩), .agg #[.int .i64 k, .int .i64 n, .slice po pl.length pc], scv] w (RetMade sc g m (2 * (1 + Rw.cnts pl)) (4 * (1 + Rw.cnts pl)) w) := by
  have hb2 : Below w.heap.size w ((w.alloc (.cells #[.int .i64 k, .int .i64 n, .slice po pl.length pc] 44)).alloc (.cells Z4 28)) := ((Below.refl w.heap.size w).alloc (Nat.le_refl _) _).alloc (by simp) _
  have hz2 : ((w.alloc (.cells #[.int .i64 k, .int .i64 n, .slice po pl.length pc] 44)).alloc (.cells Z4 28)).heap[w.heap.size + 1]? = some (.cells Z4 28 (0, 0)) := by
    have h := alloc_at (w.alloc (.cells #[.int .i64 k, .int .i64 n, .slice po pl.length pc] 44)) (.cells Z4 28)
    have e : (w.alloc (.cells #[.int .i64 k, .int .i64 n, .slice po pl.length pc] 44)).heap.size = w.heap.size + 1 := by simp
    rw [e] at h; exact h
  have hs2 : ((w.alloc (.cells #[.int .i64 k, .int .i64 n, .slice po pl.length pc] 44)).alloc (.cells Z4 28)).heap.size = w.heap.size + 2 := by simp
  have hgw := P.cnt.lt
  have HB2 := Lib.hid hb2
  have HZ2 := Lib.hid hz2
  have HRW : Hid (((w.alloc (.cells #[.int .i64 k, .int .i64 n, .slice po pl.length pc] 44)).alloc (.cells Z4 28)).heap[w.heap.size]? = some (.cells #[.int .i64 k, .int .i64 n, .slice po pl.length pc] 44 (0, 0))) := (Lib.alloc_old _ _ _ (by simp)).trans (alloc_at w _)
  obtain ⟨so, sc1, rfl⟩ := P.scope.form
  have PP := Lib.hid P
  have hfew : sc.length ≤ 60000 := by have := P.few; omega
  have F0 := Lib.hid (fun w => within_is k 16 3 hk (by decide) (by decide) hq w)
  clear ih hm hR hb2 hz2 P hq hk
  by_cases hs0 : 0 < sc.length
  · have q2 : decide ((0 : Int) < (sc.length : Int)) = true := decide_eq_true (by omega)
    have F5 := Lib.hid (fun w => within_some2 n sc.length hn hs0 hfew w)
    go_enter Try.func27, Try.ntmps27
    go_wp2_with fail
    generalize (w.alloc (.cells #[.int .i64 k, .int .i64 n, .slice po pl.length pc] 44)).alloc (.cells #[.int .i64 0, .string ⟨#[]⟩, .slice none 0 0, .slice none 0 0] 28) = W2 at HB2 HZ2 hs2 HRW ⊢
    have cK : W2.cell? ⟨w.heap.size, 0, none⟩ = some (.int .i64 k) := by rw [Lib.cell_of_heap HRW.out]; rfl
    have cN : W2.cell? ⟨w.heap.size, 1, none⟩ = some (.int .i64 n) := by rw [Lib.cell_of_heap HRW.out]; rfl
    refine (F0.out _).mono ?_
    rintro e w5 ⟨rfl, rfl⟩
    go_wp2_with fail
    refine (F5.out _).mono ?_
    rintro e w6 ⟨q, hq, rfl, rfl⟩
    have PQ := PP.out.below' HB2.out
    obtain ⟨g1, o1, rfl, hg1, e0⟩ := PQ.scope.get q hq
    have hmem := List.getElem_mem hq
    obtain ⟨x, hx⟩ : ∃ x, sc[q] = x := ⟨_, rfl⟩
    rw [hx] at e0 hmem
    have HMV : Hid (Made sc m m (.mk 5 x [] [])) := Made.var PQ.good hmem
    clear PQ hmem hx hg1
    go_wp2_with fail
    refine (var_any x _).mono ?_
    rintro e w7 ⟨rfl, hb7⟩
    have hleaf : RetMade sc g m 0 1 W2 (.returned (.agg #[.int .i64 5, .string x, .slice none 0 0, .slice none 0 0])) w7 := made_leaf HMV.out (PP.out.below' HB2.out).cnt hb7 (Nat.le_refl _)
    obtain ⟨k5, t5, nv5, av5, he5, hz5, hone, hfin⟩ := made_store (c' := 2 * (1 + Rw.cnts pl)) (s' := 4 * (1 + Rw.cnts pl)) hleaf HB2.out hgw (by rw [hs2]; omega) HZ2.out (Nat.zero_le _) (by omega)
    injection he5 with he5
    injection he5 with he5
    rw [← he5] at hone hfin
    have HZ5 := Lib.hid hz5
    have HF := Lib.hid hfin
    clear hleaf hz5 hfin he5
    go_wp2_with (refine wpList_store_row rfl 28 _ _ rfl (w.heap.size + 1) #[.int .i64 5, .string x, .slice none 0 0, .slice none 0 0] rfl rfl 28 Z4 HZ5.out info28 rfl hone ?_)
    refine bodyPost_ret (results_cell_row rfl _ _ (w.heap.size + 1) 28 #[.int .i64 5, .string x, .slice none 0 0, .slice none 0 0] (0, 0) _ rfl (setRow_heap w7 _ _ _ 28 _ HZ5.out) Try.underlying28 rfl info28) rfl ?_
    exact HF.out
  · obtain hsc : sc.length = 0 := by omega
    have q2 : decide ((0 : Int) < (sc.length : Int)) = false := decide_eq_false (by omega)
    go_enter Try.func27, Try.ntmps27
    go_wp2_with fail
    generalize (w.alloc (.cells #[.int .i64 k, .int .i64 n, .slice po pl.length pc] 44)).alloc (.cells #[.int .i64 0, .string ⟨#[]⟩, .slice none 0 0, .slice none 0 0] 28) = W2 at HB2 HZ2 hs2 HRW ⊢
    have cK : W2.cell? ⟨w.heap.size, 0, none⟩ = some (.int .i64 k) := by rw [Lib.cell_of_heap HRW.out]; rfl
    have cN : W2.cell? ⟨w.heap.size, 1, none⟩ = some (.int .i64 n) := by rw [Lib.cell_of_heap HRW.out]; rfl
    refine (F0.out _).mono ?_
    rintro e w5 ⟨rfl, rfl⟩
    have hleaf : RetMade sc g m 0 1 W2 (.returned (.agg #[.int .i64 3, .string ⟨#[]⟩, .slice none 0 0, .slice none 0 0])) W2 := made_leaf (Made.leaf (by decide) (by decide) (by simp [shapeB, textB, namesB, partsB, Lib.toList_data])) (PP.out.below' HB2.out).cnt (Below.refl _ _) (Nat.le_refl _)
    obtain ⟨k5, t5, nv5, av5, he5, hz5, hone, hfin⟩ := made_store (c' := 2 * (1 + Rw.cnts pl)) (s' := 4 * (1 + Rw.cnts pl)) hleaf HB2.out hgw (by rw [hs2]; omega) HZ2.out (Nat.zero_le _) (by omega)
    injection he5 with he5
    injection he5 with he5
    rw [← he5] at hone hfin
    have HZ5 := Lib.hid hz5
    have HF := Lib.hid hfin
    clear hleaf hz5 hfin he5
    go_wp2_with (refine wpList_store_row rfl 28 _ _ rfl (w.heap.size + 1) #[.int .i64 3, .string ⟨#[]⟩, .slice none 0 0, .slice none 0 0] rfl rfl 28 Z4 HZ5.out info28 rfl hone ?_)
    refine bodyPost_ret (results_cell_row rfl _ _ (w.heap.size + 1) 28 #[.int .i64 3, .string ⟨#[]⟩, .slice none 0 0, .slice none 0 0] (0, 0) _ rfl (setRow_heap W2 _ _ _ 28 _ HZ5.out) Try.underlying28 rfl info28) rfl ?_
    exact HF.out
end Go.Proofs.Ytcalbcllmmoldaa
