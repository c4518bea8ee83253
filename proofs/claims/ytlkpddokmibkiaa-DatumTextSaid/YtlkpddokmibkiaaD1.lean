/- Contracts of package datum at data that are no lists of parts. -/
import Derived.Test.YtlkpddokmibkiaaB2
import Derived.BigQuiet
import Derived.Deep.QuietTactic
import Derived.Deep.RegionHeld3
namespace Go.Proofs.Ytlkpddokmibkiaa
open Go.RowKit
set_option linter.unusedVariables false
set_option linter.unusedSimpArgs false

/-- It returns this Bool; what was there stands. -/
def RetBool (r : Bool) (w : World) (e : Ending) (w' : World) : Prop := e = .returned (.bool r) ∧ Below w.heap.size w w'

set_option maxHeartbeats 1000000 in
theorem is_any (k : Int) (t s : ByteArray) (mv lv : Value) (p : Int) (b1 b2 : Bool) (h1 : (k == 3) = b1) (h2 : (t.toList == s.toList) = b2) (hm : mv.oneCell' = true) (hl : lv.oneCell' = true) (w : World) :
    Calls Try.prog 24 #[.agg #[.int .i64 k, .string t, mv, lv, .int .i64 p], .string s] w (RetBool (b1 && b2) w) := by
  cases b1
  · go_enter Try.func24, Try.ntmps24
    go_wp2
    go_ret
    exact ⟨rfl, (Below.refl _ _).alloc (Nat.le_refl _) _⟩
  · cases b2
    · go_enter Try.func24, Try.ntmps24
      go_wp2
      go_ret
      exact ⟨rfl, (Below.refl _ _).alloc (Nat.le_refl _) _⟩
    · go_enter Try.func24, Try.ntmps24
      go_wp2
      go_ret
      exact ⟨rfl, (Below.refl _ _).alloc (Nat.le_refl _) _⟩

/-- Behind a write: the writer holds l; blocks below B stand. -/
def RetWr (B b : Nat) (l : List UInt8) (w : World) (e : Ending) (w' : World) : Prop := e = .returned (.tuple #[]) ∧ Wr B b l w' ∧ Fr B b w w'

set_option maxHeartbeats 2000000 in
theorem datum_leaf (B b : Nat) (l : List UInt8) (k : Int) (t : ByteArray) (mv lv : Value) (p : Int) (hk : (k != 4) = true) (hm : mv.oneCell' = true) (hl : lv.oneCell' = true) (w : World) (h : Wr B b l w) (hlen : l.length + t.size ≤ 140737488355328) (hBw : B ≤ w.heap.size) :
    Calls Try.prog 31 #[.pointer (some ⟨b, 0, none⟩), .agg #[.int .i64 k, .string t, mv, lv, .int .i64 p]] w (RetWr B b (l ++ t.data.toList) w) := by
  have HW := Lib.hid (h.alloc (.cells #[.int .i64 k, .string t, mv, lv, .int .i64 p] 28))
  have HB := Lib.hid ((Fr.refl B b w).alloc hBw (.cells #[.int .i64 k, .string t, mv, lv, .int .i64 p] 28))
  have hc : (w.alloc (.cells #[.int .i64 k, .string t, mv, lv, .int .i64 p] 28)).drew.cell? ⟨w.heap.size, 1, none⟩ = some (.string t) := by
    rw [Lib.cell_of_heap (show ((w.alloc (.cells #[.int .i64 k, .string t, mv, lv, .int .i64 p] 28)).drew).heap[w.heap.size]? = some (.cells #[.int .i64 k, .string t, mv, lv, .int .i64 p] 28 (0, 0)) from heap_alloc_new w _)]; rfl
  have hg := Lib.hid (show ((w.alloc (.cells #[.int .i64 k, .string t, mv, lv, .int .i64 p] 28)).drew).heap[w.heap.size]? = some (.cells #[.int .i64 k, .string t, mv, lv, .int .i64 p] 28 (0, 0)) from heap_alloc_new w _)
  have hbne : w.heap.size ≠ b := by have := h.lt; omega
  have hsz : B ≤ (w.alloc (.cells #[.int .i64 k, .string t, mv, lv, .int .i64 p] 28)).heap.size := by simp; omega
  clear h
  go_enter Try.func31, Try.ntmps31
  go_wp2_with fail
  refine wp_region_noPanic ?_
  refine wp_region_held_drew (S := fun w' => w'.cell? ⟨w.heap.size, 1, none⟩ = some (.string t)) (by kernel_rfl) (hc) (fun hHeld => ?_)
  refine wpAnyH_take (i := 0) (v := .pointer (some ⟨b, 0, none⟩)) rfl (by kernel_rfl) (by kernel_rfl) (by kernel_rfl) (fun _ _ _ h => h) (Or.inl ⟨rfl, fun w' hw' => ?_⟩) hHeld ?_
  · go_simp
  simp only [List.getElem_toArray, List.getElem_cons_succ, List.getElem_cons_zero, Act.put, List.setIfInBounds_toArray, List.set_cons_zero, List.set_cons_succ]
  refine wpAnyH_take (i := 1) (v := .pointer (some ⟨b, 0, none⟩)) rfl (by kernel_rfl) (by kernel_rfl) (by kernel_rfl) (fun _ _ _ h => h) (Or.inl ⟨rfl, fun w' hw' => ?_⟩) hHeld ?_
  · go_simp
  simp only [List.getElem_toArray, List.getElem_cons_succ, List.getElem_cons_zero, Act.put, List.setIfInBounds_toArray, List.set_cons_zero, List.set_cons_succ]
  refine wpAnyH_take (i := 2) (v := .pointer (some ⟨b, 0, none⟩)) rfl (by kernel_rfl) (by kernel_rfl) (by kernel_rfl) (fun _ _ _ h => h) (Or.inl ⟨rfl, fun w' hw' => ?_⟩) hHeld ?_
  · go_simp
  simp only [List.getElem_toArray, List.getElem_cons_succ, List.getElem_cons_zero, Act.put, List.setIfInBounds_toArray, List.set_cons_zero, List.set_cons_succ]
  refine wpAnyH_take (i := 3) (v := .pointer (some ⟨w.heap.size, 1, none⟩)) rfl (by kernel_rfl) (by kernel_rfl) (by kernel_rfl) (fun _ _ _ h => h) (Or.inl ⟨rfl, fun w' hw' => ?_⟩) hHeld ?_
  · go_simp
  simp only [List.getElem_toArray, List.getElem_cons_succ, List.getElem_cons_zero, Act.put, List.setIfInBounds_toArray, List.set_cons_zero, List.set_cons_succ]
  refine wpAnyH_take (i := 4) (v := .string t) rfl (by kernel_rfl) (by kernel_rfl) (by kernel_rfl) (fun _ _ _ h => h) (Or.inl ⟨rfl, fun w' hw' => ?_⟩) hHeld ?_
  · have hc := hw'; go_simp
  simp only [List.getElem_toArray, List.getElem_cons_succ, List.getElem_cons_zero, Act.put, List.setIfInBounds_toArray, List.set_cons_zero, List.set_cons_succ]
  refine wpAnyH_ready (rs := [5]) (by kernel_rfl) (by simp) ?_
  refine AllReadyH.cons rfl (fun K hK => ?_) AllReadyH.nil
  go_simp
  refine (wstring B b l t _ HW.out.drew hlen hsz).mono ?_
  rintro e w1 ⟨⟨n, rfl⟩, hW1, hF⟩
  refine hK.out _ _ (by rw [Lib.cell_of_heap (hF.keep hg.out (by decide) hbne)]; rfl) (fun hHeld => ?_)
  clear hK K
  refine wpAnyH_done (by kernel_rfl) ?_ _
  refine NoPanic.normal ?_
  have H1 := Lib.hid hW1
  have H2 := Lib.hid (HB.out.drew.trans hF)
  clear hW1 hF hHeld hc
  go_wp2
  go_end0
  exact ⟨rfl, H1.out, H2.out⟩
end Go.Proofs.Ytlkpddokmibkiaa
