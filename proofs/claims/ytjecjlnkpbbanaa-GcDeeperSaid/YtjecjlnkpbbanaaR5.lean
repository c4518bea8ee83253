/- The document's Over. -/
import Derived.Test.YtjecjlnkpbbanaaR4
namespace Go.Proofs.Ytjecjlnkpbbanaa
open Go Go.RowKit
set_option linter.unusedVariables false
set_option linter.unusedSimpArgs false
set_option maxHeartbeats 8000000 in
set_option maxRecDepth 100000 in
theorem rover_no {w : World} {x : Nat} {C : Nat → Nat} {qs : List Nat} {os : List Ob} {m : Nat} (h : Rh w x C qs os m) (a to : Int)
    (hno : a = to ∨ (ob os a).isSome = false ∨ (ob os to).isSome = false) : Calls Try.prog 62 #[.pointer (some ⟨x, 0, none⟩), .int .i64 a, .int .i64 to] w (RetV (.bool false) w) := by
  have F := Lib.hid (find_r h a)
  have F2 := Lib.hid (find_r h to)
  rcases h.at a with ⟨-, h2, h3⟩ | ⟨k, q, o, -, -, -, -, -, h2, h3, -⟩
  · rw [h2] at F
    clear h h2 h3 hno
    go_enter Try.func62, Try.ntmps62
    go_wp2_with fail
    refine F.out.mono ?_
    rintro e w1 ⟨rfl, rfl⟩
    clear F
    go_wp2_with fail
    go_ret
    exact ⟨rfl, Below.refl _ _⟩
  · rw [h2] at F
    rcases h.at to with ⟨-, g2, g3⟩ | ⟨k', q', o', -, -, -, -, -, g2, g3, -⟩
    · rw [g2] at F2
      clear h h2 h3 g2 g3 hno
      go_enter Try.func62, Try.ntmps62
      go_wp2_with fail
      refine F.out.mono ?_
      rintro e w1 ⟨rfl, rfl⟩
      clear F
      go_wp2_with fail
      refine F2.out.mono ?_
      rintro e w1 ⟨rfl, rfl⟩
      clear F2
      go_wp2_with fail
      go_ret
      exact ⟨rfl, Below.refl _ _⟩
    · rw [g2] at F2
      have q1 : (a == to) = true := by
        rcases hno with h | h | h
        · simpa using h
        · rw [h3] at h; cases h
        · rw [g3] at h; cases h
      clear h h2 h3 g2 g3 hno
      go_enter Try.func62, Try.ntmps62
      go_wp2_with fail
      refine F.out.mono ?_
      rintro e w1 ⟨rfl, rfl⟩
      clear F
      go_wp2_with fail
      refine F2.out.mono ?_
      rintro e w1 ⟨rfl, rfl⟩
      clear F2
      go_wp2_with fail
      go_ret
      exact ⟨rfl, Below.refl _ _⟩
set_option maxHeartbeats 8000000 in
set_option maxRecDepth 100000 in
theorem rover_yes {w : World} {x : Nat} {C : Nat → Nat} {qs : List Nat} {os : List Ob} {m : Nat} (h : Rh w x C qs os m) (a to : Int)
    (k : Nat) (hk : loc os a = some k) (hne : a ≠ to) (hto : (ob os to).isSome = true) : Calls Try.prog 62 #[.pointer (some ⟨x, 0, none⟩), .int .i64 a, .int .i64 to] w (RetR (.bool true) x C (upd os k (fun o => overO o to)) m w) := by
  have F := Lib.hid (find_r h a)
  have F2 := Lib.hid (find_r h to)
  rcases h.at a with ⟨h2, -, -⟩ | ⟨k', q, o, e1, hkl, e2, e3, -, h2, h3, h4⟩
  · rw [h2] at hk; cases hk
  rw [hk] at e1
  injection e1 with e1
  subst e1
  rcases h.at to with ⟨-, -, g3⟩ | ⟨kt, qt, ot, -, -, -, -, -, g2, -, -⟩
  · rw [g3] at hto; cases hto
  rw [h2] at F
  rw [g2] at F2
  have e4 : os[k] = o := by rw [List.getElem?_eq_getElem hkl] at e2; injection e2
  have hok := h.oks o (ob_mem h3)
  obtain ⟨pa, pc, na, nc, c0, c1, c2, c3, -, -⟩ := h4.cells
  obtain ⟨f0, pv, nv, f1, f2, f3, f4, f5⟩ := h4
  have hq : q < w.heap.size := (Array.getElem?_eq_some_iff.1 f1).1
  have hqs : q ≠ w.heap.size := by omega
  have q1 : (a == to) = false := by simpa using hne
  have hx0 : w.heap[q]? = some (.cells #[.int .i64 (adr os k : Nat), .int .i64 o.tag, pv, nv] 70 (0, 0)) := f1
  have FIN : Hid (∀ W, W.os = w.os → W.tape = w.tape → W.output = w.output → W.heap.size = w.heap.size + 1 → W.heap[q]? = some (.cells #[.int .i64 (adr os k : Nat), .int .i64 5, .slice (some ⟨w.heap.size, 0, none⟩) 1 1, .slice none 0 0] 70 (0, 0)) → W.heap[w.heap.size]? = some (.cells #[.int .i64 to] 3 (0, 0)) → (∀ y, y < w.heap.size → y ≠ q → W.heap[y]? = w.heap[y]?) →
      RetR (.bool true) x C (upd os k (fun o => overO o to)) m w (.returned (.bool true)) W) := by
    intro W w1 w2 w3 w4 w5 w6 w7
    refine ⟨rfl, fun y => if y = w.heap.size then 3 * k + 4 else C y, qs, ?_, ⟨w1, w2, w3, by omega, fun y hy hn => w7 y hy (fun e => hn (by rw [e]; omega))⟩, fun y hy => ?_⟩
    · rw [upd_eq hkl, e4]
      refine h.put (C' := fun y => if y = w.heap.size then 3 * k + 4 else C y) (F := fun y => y = q) hkl e3 (by rw [e4]; simp [overO]) (overO_ok hok to) (fun p hp => ?_) ⟨w1, w2, w3, by omega, fun y hy hn => w7 y hy hn⟩ (fun y hy => by rw [hy]; exact .inl f0) (fun y hy => if_neg (by omega)) (fun y hy => by show (if y = w.heap.size then _ else _) = 0; rw [if_neg (by omega)]; exact h.fresh y (by omega)) ?_
      · rw [overO_ptrs _ _ hok.b1] at hp
        simp at hp
        subst hp
        exact .inr hto
      · refine ⟨by show (if q = w.heap.size then _ else _) = _; rw [if_neg hqs]; exact f0, _, _, w5, ?_, fun y hy => ?_, ?_, fun y hy => by simp [Value.ownBlock] at hy⟩
        · rw [overO_ptrs _ _ hok.b1]
          exact ⟨rfl, .inr ⟨_, 1, _, rfl, Nat.zero_le _, w6, Nat.le_refl _, by unfold maxLen; omega, rfl, rfl⟩⟩
        · have : w.heap.size = y := Option.some.inj hy
          show (if y = w.heap.size then _ else _) = _
          rw [if_pos this.symm]
        · have hn0 : (overO o to).nums = [] := by simp [overO, Ob.nums]
          rw [hn0]
          exact World.ownsRow_nil _ _ _ _
    · by_cases e : y = w.heap.size
      · exact .inr (by omega)
      · simp only [if_neg e] at hy; exact .inl hy
  obtain ⟨t0, ht0⟩ : ∃ t0 : Int, t0 = o.tag := ⟨_, rfl⟩
  obtain ⟨a0, ha0⟩ : ∃ a0 : Int, a0 = (adr os k : Nat) := ⟨_, rfl⟩
  rw [← ha0] at c0 hx0 FIN
  rw [← ht0] at c1 hx0
  have c2' : w.cell? ⟨q, 2, none⟩ = some pv := by rw [cell_of_row _ _ _ _ _ _ f1]; rfl
  have c3' : w.cell? ⟨q, 3, none⟩ = some nv := by rw [cell_of_row _ _ _ _ _ _ f1]; rfl
  have z1 := frozen_of_row w q 1 _ _ f1
  have z2 := frozen_of_row w q 2 _ _ f1
  have z3 := frozen_of_row w q 3 _ _ f1
  obtain ⟨pa', pn', pc', rfl⟩ : ∃ a n c, pv = .slice a n c := by obtain ⟨a, c, h⟩ := own_sform f2; exact ⟨a, _, c, h⟩
  obtain ⟨na', nn', nc', rfl⟩ : ∃ a n c, nv = .slice a n c := by obtain ⟨a, c, h⟩ := own_sform f4; exact ⟨a, _, c, h⟩
  have HX0 := Lib.hid hx0
  clear f0 f1 f2 f3 f4 f5 e4 e2 e3 h2 h3 g2 h hto hk hok c2 c3 ht0 ha0 hne hx0
  go_enter Try.func62, Try.ntmps62
  go_wp2_with fail
  refine F.out.mono ?_
  rintro e w1 ⟨rfl, rfl⟩
  clear F
  go_wp2_with fail
  refine F2.out.mono ?_
  rintro e w1 ⟨rfl, rfl⟩
  clear F2
  go_wp2_with fail
  go_ret
  have s1 := heap_setCell_same w q 1 _ 70 (.int .i64 5) HX0.out
  have s2 := heap_setCell_same _ q 2 _ 70 (.slice (some ⟨w.heap.size, 0, none⟩) 1 1) s1
  have s3 := heap_setCell_same _ q 3 _ 70 (.slice none 0 0) s2
  have hz : (((w.setCell ⟨q, 1, none⟩ (.int .i64 5)).setCell ⟨q, 2, none⟩ (.slice (some ⟨w.heap.size, 0, none⟩) 1 1)).setCell ⟨q, 3, none⟩ (.slice none 0 0)).heap.size = w.heap.size := by simp [World.setCell]
  refine FIN.out _ rfl rfl rfl ?_ ((Below.heap_alloc _ _ _ (by rw [hz]; exact hq)).trans s3) ?_ ?_
  · have := hz; simp [World.setCell]
  · have := alloc_at (((w.setCell ⟨q, 1, none⟩ (.int .i64 5)).setCell ⟨q, 2, none⟩ (.slice (some ⟨w.heap.size, 0, none⟩) 1 1)).setCell ⟨q, 3, none⟩ (.slice none 0 0)) (.cells #[.int .i64 to] 3)
    rw [hz] at this; exact this
  · intro y hy hyq
    rw [Below.heap_alloc _ _ _ (by rw [hz]; exact hy), Below.heap_setCell _ _ _ _ (by show y ≠ q; omega), Below.heap_setCell _ _ _ _ (by show y ≠ q; omega), Below.heap_setCell _ _ _ _ (by show y ≠ q; omega)]
end Go.Proofs.Ytjecjlnkpbbanaa
