/- The program's heap in memory; where its words end; the head of a word. -/
import Derived.Test.YtjecjlnkpbbanaaA
namespace Go.Proofs.Ytjecjlnkpbbanaa
open Go.RowKit
set_option linter.unusedVariables false
set_option linter.unusedSimpArgs false
def wcells (l : List Wd) : List Value := l.flatMap Wd.cells
theorem wcells_length (l : List Wd) : (wcells l).length = l.length * 5 := by
  induction l with
  | nil => rfl
  | cons a l ih => simp only [wcells, List.flatMap_cons, List.length_append] at ih ⊢; rw [ih]; simp [Wd.cells]; omega
theorem wcells_append (l m : List Wd) : wcells (l ++ m) = wcells l ++ wcells m := by simp [wcells]
theorem wcells_get (l : List Wd) (i : Nat) (h : i < l.length) (j : Nat) (hj : j < 5) : (wcells l)[i * 5 + j]? = l[i].cells[j]? := by
  induction l generalizing i with
  | nil => simp at h
  | cons a l ih =>
    have e : wcells (a :: l) = a.cells ++ wcells l := rfl
    have hl : a.cells.length = 5 := rfl
    cases i with
    | zero => rw [e, List.getElem?_append_left (by omega)]; simp
    | succ i =>
      rw [e, List.getElem?_append_right (by omega), show (i + 1) * 5 + j - a.cells.length = i * 5 + j by omega]
      exact ih i (by simpa using h)
/-- The heap at block b has these words; G: where they lie. -/
def Hp (w : World) (b : Nat) (G : Option Nat) (l : List Wd) (m : Nat) : Prop :=
  ∃ lv, w.heap[b]? = some (.cells #[lv, .int .i64 m] 75 (0, 0)) ∧ lv.ownBlock = G ∧ w.ownsRow 0 79 5 lv l.length (wcells l) ∧ l.length ≤ 1000000 ∧ (∀ x ∈ l, x.low)
theorem Hp.lt {w : World} {b : Nat} {G : Option Nat} {l : List Wd} {m : Nat} (h : Hp w b G l m) : b < w.heap.size := by
  obtain ⟨lv, h1, _⟩ := h
  exact (Array.getElem?_eq_some_iff.1 h1).1
theorem Hp.glt {w : World} {b : Nat} {G : Option Nat} {l : List Wd} {m : Nat} (h : Hp w b G l m) : ∀ k, G = some k → k < w.heap.size ∧ k ≠ b := by
  obtain ⟨lv, h1, h2, h3, _⟩ := h
  intro k hk
  refine ⟨(h3.lt k (h2.trans hk)).2, ?_⟩
  rintro rfl
  rcases h3.2 with ⟨rfl, _⟩ | ⟨g, cap, cur, rfl, _, h4, _⟩
  · simp [Value.ownBlock] at h2; rw [← h2] at hk; cases hk
  · have : g = k := by rw [← h2] at hk; injection hk
    subst this
    rw [h1] at h4
    injection h4 with h4
    injection h4 with _ h5
    exact absurd h5 (by decide)
theorem Hp.keep {w w' : World} {b : Nat} {G : Option Nat} {l : List Wd} {m : Nat} (h : Hp w b G l m) (hb : w'.heap[b]? = w.heap[b]?) (hg : ∀ k, G = some k → w'.heap[k]? = w.heap[k]?) : Hp w' b G l m := by
  obtain ⟨lv, h1, h2, h3, h4⟩ := h
  refine ⟨lv, hb.trans h1, h2, ⟨h3.1, ?_⟩, h4⟩
  rcases h3.2 with h | ⟨g, cap, cur, e, hB, hh, r⟩
  · exact .inl h
  · subst e
    exact .inr ⟨g, cap, cur, rfl, hB, (hg g (by rw [← h2]; rfl)).trans hh, r⟩
theorem Hp.below {w w' : World} {b : Nat} {G : Option Nat} {l : List Wd} {m : Nat} (h : Hp w b G l m) (hb : Below w.heap.size w w') : Hp w' b G l m :=
  h.keep (hb.block _ h.lt) (fun k hk => hb.block _ (h.glt k hk).1)
/-- What a slice of words is, and its cells. -/
theorem Hp.cell {w : World} {b : Nat} {G : Option Nat} {l : List Wd} {m : Nat} (h : Hp w b G l m) : ∃ ao cap, w.cell? ⟨b, 0, none⟩ = some (.slice ao l.length cap) ∧ w.cell? ⟨b, 1, none⟩ = some (.int .i64 m) ∧ w.frozen? ⟨b, 0, none⟩ = false ∧ l.length ≤ cap ∧
    (∀ i (hi : i < l.length), ∃ g, ao = some ⟨g, 0, none⟩ ∧ G = some g ∧ (∃ c, w.heap[g]? = some (.cells c 79 (0, 0))) ∧ w.cell? ⟨g, i * 5, none⟩ = some (.int .u8 l[i].t) ∧ w.cell? ⟨g, i * 5 + 1, none⟩ = some (.int .u8 l[i].p) ∧ w.cell? ⟨g, i * 5 + 2, none⟩ = some (.int .u8 l[i].n) ∧ w.cell? ⟨g, i * 5 + 3, none⟩ = some (.int .u8 l[i].s) ∧ w.cell? ⟨g, i * 5 + 4, none⟩ = some (.int .i64 l[i].v)) := by
  obtain ⟨lv, h1, h2, h3, h4, _⟩ := h
  have hf : w.frozen? ⟨b, 0, none⟩ = false := frozen_of_row w b 0 _ 75 h1
  have hm : w.cell? ⟨b, 1, none⟩ = some (.int .i64 m) := by rw [cell_of_row _ _ _ _ _ _ h1]; rfl
  have h0 : w.cell? ⟨b, 0, none⟩ = some lv := by rw [cell_of_row _ _ _ _ _ _ h1]; rfl
  rcases h3.2 with ⟨rfl, hz⟩ | ⟨g, cap, cur, rfl, _, hh, hn, hcm, hcs, ht⟩
  · rw [← hz] at h0
    exact ⟨none, 0, by rw [hz] at h0; rw [h0, hz], hm, hf, by omega, fun i hi => by omega⟩
  · refine ⟨_, cap, h0, hm, hf, hn, fun i hi => ⟨g, rfl, by rw [← h2]; rfl, ⟨_, hh⟩, ?_⟩⟩
    have hc : ∀ j, j < 5 → w.cell? ⟨g, i * 5 + j, none⟩ = l[i].cells[j]? := fun j hj => by
      rw [cell_of_row _ _ _ _ _ _ hh, ← Array.getElem?_toList, ← wcells_get l i hi j hj, ← ht, List.getElem?_take, if_pos (by omega)]
    exact ⟨hc 0 (by decide), hc 1 (by decide), hc 2 (by decide), hc 3 (by decide), hc 4 (by decide)⟩
theorem end_any {w : World} {b : Nat} {G : Option Nat} {l : List Wd} {m : Nat} (h : Hp w b G l m) : Calls Try.prog 44 #[.pointer (some ⟨b, 0, none⟩)] w fun e w' => e = .returned (.int .i64 l.length) ∧ w = w' := by
  obtain ⟨ao, cap, h0, _⟩ := h.cell
  clear h
  go_enter Try.func44, Try.ntmps44
  go_wp2
  go_ret
  exact ⟨rfl, rfl⟩
theorem used_any {w : World} {b : Nat} {G : Option Nat} {l : List Wd} {m : Nat} (h : Hp w b G l m) : Calls Try.prog 20 #[.pointer (some ⟨b, 0, none⟩)] w fun e w' => e = .returned (.int .i64 l.length) ∧ w = w' := by
  have F := Lib.hid (end_any h)
  obtain ⟨ao, cap, h0, _⟩ := h.cell
  clear h
  go_enter Try.func20, Try.ntmps20
  go_wp2_with fail
  refine F.out.mono ?_
  rintro e w' ⟨rfl, rfl⟩
  go_wp2_with fail
  go_ret
  exact ⟨rfl, rfl⟩
theorem words_any {w : World} {b : Nat} {G : Option Nat} {l : List Wd} {m : Nat} (h : Hp w b G l m) : Calls Try.prog 26 #[.pointer (some ⟨b, 0, none⟩)] w fun e w' => e = .returned (.int .i64 m) ∧ w = w' := by
  obtain ⟨ao, cap, h0, h1, _⟩ := h.cell
  clear h
  go_enter Try.func26, Try.ntmps26
  go_wp2
  go_ret
  exact ⟨rfl, rfl⟩
/-- The head of the word there. -/
def hdAt (l : List Wd) (a : Int) : Wd := if h : 0 ≤ a ∧ a < l.length then l[a.toNat]'(by omega) else ⟨0, 0, 0, 0, 0⟩
theorem head_any {w : World} {b : Nat} {G : Option Nat} {l : List Wd} {m : Nat} (h : Hp w b G l m) (a : Int) (ha : -9223372036854775808 ≤ a) (hb : a ≤ 9223372036854775807) :
    Calls Try.prog 46 #[.pointer (some ⟨b, 0, none⟩), .int .i64 a] w (RetV (.agg (hdAt l a).hd) w) := by
  have F := Lib.hid (fun o => end_any (h.below ((Below.refl _ _).alloc (Nat.le_refl _) o)))
  obtain ⟨ao, cap, h0, h1, hf, hcap, hc⟩ := h.cell
  have hbl := h.lt
  have hgl := h.glt
  have hll : l.length ≤ 1000000 := by obtain ⟨_, _, _, _, h, _⟩ := h; exact h
  clear h
  by_cases hr : 0 ≤ a
  · by_cases hr2 : a < l.length
    · have e : hdAt l a = l[a.toNat]'(by omega) := by unfold hdAt; rw [dif_pos ⟨hr, hr2⟩]
      rw [e]
      clear e
      obtain ⟨k, rfl⟩ : ∃ k : Nat, a = k := ⟨a.toNat, by omega⟩
      have hk : k < l.length := by omega
      obtain ⟨g, rfl, hG, ⟨c, hg⟩, c0, c1, c2, c3, c4⟩ := hc k hk
      have hgl := (hgl g hG).1
      simp only [Int.toNat_natCast]
      obtain ⟨x, hx⟩ : ∃ x, x = l[k] := ⟨_, rfl⟩
      rw [← hx] at c0 c1 c2 c3 c4 ⊢
      clear hx hc hG
      go_enter Try.func46, Try.ntmps46
      go_wp2_with fail
      refine (F.out _).mono ?_
      rintro e w' ⟨rfl, rfl⟩
      go_wp2_with fail
      refine bodyPost_ret (results_cell_row rfl _ _ w.heap.size 77 x.hd (0, 0) _ rfl (alloc_at _ _) Try.underlying77 rfl info55) rfl ?_
      exact ⟨rfl, (Below.refl _ _).alloc (Nat.le_refl _) _⟩
    · have e : hdAt l a = ⟨0, 0, 0, 0, 0⟩ := by unfold hdAt; rw [dif_neg (by omega)]
      rw [e]
      clear e hc
      go_enter Try.func46, Try.ntmps46
      go_wp2_with fail
      refine (F.out _).mono ?_
      rintro e w' ⟨rfl, rfl⟩
      go_wp2_with fail
      refine bodyPost_ret (results_cell_row rfl _ _ w.heap.size 77 #[.int .u8 0, .int .u8 0, .int .u8 0, .int .u8 0] (0, 0) _ rfl (alloc_at _ _) Try.underlying77 rfl info55) rfl ?_
      exact ⟨rfl, (Below.refl _ _).alloc (Nat.le_refl _) _⟩
  · have e : hdAt l a = ⟨0, 0, 0, 0, 0⟩ := by unfold hdAt; rw [dif_neg (by omega)]
    rw [e]
    clear e hc
    go_enter Try.func46, Try.ntmps46
    go_wp2_with fail
    refine bodyPost_ret (results_cell_row rfl _ _ w.heap.size 77 #[.int .u8 0, .int .u8 0, .int .u8 0, .int .u8 0] (0, 0) _ rfl (alloc_at _ _) Try.underlying77 rfl info55) rfl ?_
    exact ⟨rfl, (Below.refl _ _).alloc (Nat.le_refl _) _⟩
end Go.Proofs.Ytjecjlnkpbbanaa
