/- The document's digits: rows of digits, the lowest first; trim. -/
import Derived.Test.YtofhacafekfkgaaDoorA
import Derived.Laws.AppendOwn
import Derived.Laws.MakeOwn
namespace Go.Proofs.YtofhacafekfkgaaDoor
open Go.RowKit Go.BigM
set_option linter.unusedVariables false
set_option linter.unusedSimpArgs false
/-- The number of a row of digits, the lowest first. -/
def nval : List Nat → Nat
  | [] => 0
  | a :: l => a + 10 * nval l
/-- Digits. -/
def Tens (l : List Nat) : Prop := ∀ a ∈ l, a < 10
theorem Tens.tail {a : Nat} {l : List Nat} (h : Tens (a :: l)) : Tens l := fun x hx => h x (by simp [hx])
theorem Tens.take {l : List Nat} (h : Tens l) (n : Nat) : Tens (l.take n) := fun x hx => h x (List.mem_of_mem_take hx)
theorem nval_append : ∀ (l m : List Nat), nval (l ++ m) = nval l + 10 ^ l.length * nval m
  | [], m => by simp [nval]
  | a :: l, m => by
    simp only [List.cons_append, nval, nval_append l m, List.length_cons, Nat.pow_succ]
    rw [Nat.mul_add, Nat.mul_comm (10 ^ l.length) 10, Nat.mul_assoc]; omega
theorem nval_snoc (l : List Nat) (a : Nat) : nval (l ++ [a]) = nval l + 10 ^ l.length * a := by rw [nval_append]; simp [nval]
theorem nval_lt : ∀ (l : List Nat), Tens l → nval l < 10 ^ l.length
  | [], _ => by simp [nval]
  | a :: l, h => by
    have h1 := nval_lt l h.tail
    have h2 := h a (by simp)
    simp only [nval, List.length_cons, Nat.pow_succ]; omega
theorem nval_zeros : ∀ (n : Nat), nval (List.replicate n 0) = 0
  | 0 => rfl
  | n + 1 => by rw [List.replicate_succ]; simp [nval, nval_zeros n]
theorem usedOf_cons (a : Nat) (l : List Nat) : usedOf (a :: l) = if usedOf l = 0 then (if a = 0 then 0 else 1) else usedOf l + 1 := rfl
theorem nval_zero : ∀ (l : List Nat), usedOf l = 0 → nval l = 0
  | [], _ => rfl
  | a :: l, h => by
    rw [usedOf_cons] at h
    split at h
    · rename_i h1
      split at h
      · rename_i h2
        simp [nval, h2, nval_zero l h1]
      · omega
    · omega
theorem nval_used : ∀ (l : List Nat), nval (l.take (usedOf l)) = nval l
  | [] => rfl
  | a :: l => by
    have ih := nval_used l
    rw [usedOf_cons]
    split
    · rename_i h
      have h0 := nval_zero l h
      split
      · rename_i h2; simp [nval, h2, h0]
      · simp [nval, h0]
    · simp only [List.take_succ_cons, nval, ih]
/-- A slice that reads as these digits. -/
def IsL (w : World) (v : Value) (L : List Nat) : Prop :=
  ∃ ao cap, v = .slice ao L.length cap ∧ L.length ≤ cap ∧ cap ≤ maxLen ∧ (L = [] ∨ ∃ g, ao = some ⟨g, 0, none⟩ ∧ ∀ i (h : i < L.length), w.cell? ⟨g, i, none⟩ = some (.int .i64 (L[i] : Nat)))
theorem IsL.below {w w' : World} {v : Value} {L : List Nat} (h : IsL w v L) (hb : Below w.heap.size w w') : IsL w' v L := by
  obtain ⟨ao, cap, rfl, h1, h2, h3⟩ := h
  refine ⟨ao, cap, rfl, h1, h2, ?_⟩
  rcases h3 with h | ⟨g, rfl, h⟩
  · exact .inl h
  · exact .inr ⟨g, rfl, fun i hi => by rw [hb.cell (World.block_lt_of_cell? w _ (h i hi))]; exact h i hi⟩
theorem IsL.take {w : World} {g n cap : Nat} {L : List Nat} (h : IsL w (.slice (some ⟨g, 0, none⟩) n cap) L) (k : Nat) (hk : k ≤ L.length) : IsL w (.slice (some ⟨g, 0, none⟩) k cap) (L.take k) := by
  obtain ⟨ao, cap', e, h1, h2, h3⟩ := h
  injection e with e1 e2 e3
  subst e1 e2 e3
  have hl : (L.take k).length = k := by rw [List.length_take]; omega
  refine ⟨_, _, by rw [hl], by omega, h2, ?_⟩
  rcases h3 with rfl | ⟨g', e, h⟩
  · exact .inl (by simp)
  · injection e with e
    injection e with e _ _
    subst e
    exact .inr ⟨_, rfl, fun i hi => by rw [h i (by omega), List.getElem_take]⟩
def TmInv (L : List Nat) (ao : Option Addr) (cap : Nat) (w : World) (v : Value) (wr : World) : Prop := ∃ k, usedOf L ≤ k ∧ k ≤ L.length ∧ v = .slice ao k cap ∧ wr = w
set_option maxHeartbeats 1000000 in
set_option maxRecDepth 100000 in
theorem trim_any (L : List Nat) (v : Value) (w : World) (h : IsL w v L) (hn : L.length ≤ 100000) : Calls Tryd.prog 38 #[v] w fun e w' => (∃ u, e = .returned u ∧ IsL w u (L.take (usedOf L))) ∧ w = w' := by
  have H := Lib.hid h
  obtain ⟨ao, cap, rfl, h1, h2, h3⟩ := h
  have hcm : cap ≤ 9223372036854775807 := by unfold maxLen at h2; omega
  clear h2
  go_enter Tryd.func38, Tryd.ntmps38
  go_wp2_with fail
  go_loopw [0] (fun v wr => TmInv L ao cap w v wr) (fun v _ => match v with | .slice _ n _ => n | _ => 0)
  case atStart => exact ⟨L.length, usedOf_le L, Nat.le_refl _, rfl, rfl⟩
  case round =>
    obtain ⟨k, hk1, hk2, rfl, rfl⟩ := hrel
    have HR : Hid ((∃ u, Ending.returned (.slice ao k cap) = .returned u ∧ IsL wr u (L.take k)) ) := by
      show _
      refine ⟨_, rfl, ?_⟩
      rcases h3 with rfl | ⟨g, rfl, h3⟩
      · obtain rfl : k = 0 := by simpa using hk2
        exact H.out
      · exact H.out.take k hk2
    cases k with
    | zero =>
      have hu : usedOf L = 0 := by omega
      have HU := Lib.hid hu
      clear hu hk1
      go_wp2_with fail
      go_ret
      rw [HU.out]
      exact ⟨HR.out, rfl⟩
    | succ m =>
      rcases h3 with rfl | ⟨g, rfl, h3⟩
      · simp at hk2
      have hc := h3 m (by omega)
      have e1 : (((m + 1 : Nat) : Int) - 1) = (m : Int) := by omega
      have hmc : m + 1 ≤ cap := by omega
      have hgl : L.getD m 0 = L[m] := by rw [List.getD_eq_getElem?_getD, List.getElem?_eq_getElem (by omega)]; rfl
      obtain ⟨n, hmn⟩ : ∃ n, n = m + 1 := ⟨_, rfl⟩
      rw [← hmn] at e1 HR hmc
      simp only [← hmn]
      have hn0 : decide ((0 : Int) < (n : Int)) = true := decide_eq_true (by omega)
      have hmn2 : m < n := by omega
      have hmc2 : m ≤ cap := by omega
      have hnl : n ≤ 100000 := by omega
      by_cases h0 : L[m] = 0
      · rw [h0] at hc
        have hu : usedOf L ≤ m := by
          rcases Nat.lt_or_ge m (usedOf L) with h | h
          · have := usedOf_top L (by omega)
            rw [show usedOf L - 1 = m by omega, hgl] at this
            exact absurd h0 this
          · exact h
        have HU := Lib.hid hu
        clear HR h3 hgl hmn hk1 hu
        go_wp2_with fail
        go_roundw
        case rel => exact ⟨m, HU.out, by omega, rfl, rfl⟩
        case measure => omega
      · have hu : usedOf L = n := by
          rcases Nat.lt_or_ge m (usedOf L) with h | h
          · omega
          · have := usedOf_zero L m h
            rw [hgl] at this
            exact absurd this h0
        obtain ⟨x, hx⟩ : ∃ x, x = L[m] := ⟨_, rfl⟩
        rw [← hx] at hc h0
        have hx0 : ((x : Int) == 0) = false := by rw [beq_eq_false_iff_ne]; omega
        have HU := Lib.hid hu
        clear h3 hgl hmn hk1 hx hu
        go_wp2_with fail
        go_ret
        rw [HU.out]
        exact ⟨HR.out, rfl⟩
end Go.Proofs.YtofhacafekfkgaaDoor
