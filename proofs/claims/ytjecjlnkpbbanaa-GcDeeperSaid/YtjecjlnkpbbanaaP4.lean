/- Set, Over. -/
import Derived.Test.YtjecjlnkpbbanaaP3
namespace Go.Proofs.Ytjecjlnkpbbanaa
open Go Go.RowKit
set_option linter.unusedVariables false
set_option linter.unusedSimpArgs false
/-- Only blocks of F may have turned. -/
structure Fr (F : Nat → Prop) (w w' : World) : Prop where
  os : w'.os = w.os
  tape : w'.tape = w.tape
  output : w'.output = w.output
  size : w.heap.size ≤ w'.heap.size
  block : ∀ k, k < w.heap.size → ¬ F k → w'.heap[k]? = w.heap[k]?
theorem Fr.refl (F : Nat → Prop) (w : World) : Fr F w w := ⟨rfl, rfl, rfl, Nat.le_refl _, fun _ _ _ => rfl⟩
theorem Fr.trans {F F' : Nat → Prop} {a b c : World} (h : Fr F a b) (k : Fr F' b c) (hF : ∀ x, x < a.heap.size → F' x → F x) : Fr F a c :=
  ⟨k.os.trans h.os, k.tape.trans h.tape, k.output.trans h.output, Nat.le_trans h.size k.size, fun i hi hn => (k.block i (Nat.lt_of_lt_of_le hi h.size) (fun e => hn (hF i hi e))).trans (h.block i hi hn)⟩
theorem Fr.of_below {F : Nat → Prop} {w w' : World} (h : Below w.heap.size w w') : Fr F w w' := ⟨h.os, h.tape, h.output, h.size, fun k hk _ => h.block k hk⟩
theorem Fr.below {F : Nat → Prop} {B : Nat} {w w' : World} (h : Fr F w w') (hB : ∀ x, x < B → ¬ F x) (hw : B ≤ w.heap.size) : Below B w w' := ⟨h.os, h.tape, h.output, h.size, fun k hk => h.block k (by omega) (hB k hk)⟩
theorem Fr.setCell {F : Nat → Prop} {a w : World} (h : Fr F a w) {p : Addr} (hp : F p.block) (u : Value) : Fr F a (w.setCell p u) :=
  ⟨h.os, h.tape, h.output, by simpa [World.setCell] using h.size, fun k hk hn => (Below.heap_setCell _ _ _ _ (fun e => hn (by rw [e]; exact hp))).trans (h.block k hk hn)⟩
def own (b : Nat) (G : Option Nat) (k : Nat) : Prop := k = b ∨ G = some k
def RetHp (v : Value) (b : Nat) (G : Option Nat) (os' : List Ob) (m : Nat) (w : World) (e : Ending) (w' : World) : Prop :=
  e = .returned v ∧ ∃ G', HpO w' b G' os' m ∧ Fr (own b G) w w' ∧ (∀ k, G' = some k → G = some k ∨ w.heap.size ≤ k)
theorem own_set {w : World} {B : Nat} {e : TypeId} {s : Nat} {v : Value} {n : Nat} {xs : List Value} (h : w.ownsRow B e s v n xs) {g : Nat} (hg : v.ownBlock = some g) (j : Nat) (hj : j < xs.length) (u : Value) :
    (w.setCell ⟨g, j, none⟩ u).ownsRow B e s v n (xs.set j u) := by
  refine ⟨by rw [List.length_set]; exact h.1, ?_⟩
  rcases h.2 with ⟨rfl, h0⟩ | ⟨g1, cap, cur, rfl, hb, hh, hn, hm, hs, ht⟩
  · simp [Value.ownBlock] at hg
  · have : g1 = g := by simpa [Value.ownBlock] using hg
    subst this
    refine .inr ⟨g1, cap, _, rfl, hb, heap_setCell_same w g1 j cur e u hh, hn, hm, by simp [hs], ?_⟩
    rw [← ht, Array.toList_setIfInBounds]
    rw [List.take_set]
theorem wcells_set (l : List Wd) (i : Nat) (x : Wd) : wcells (l.set i x) = (((((wcells l).set (i * 5) (.int .u8 x.t)).set (i * 5 + 1) (.int .u8 x.p)).set (i * 5 + 2) (.int .u8 x.n)).set (i * 5 + 3) (.int .u8 x.s)).set (i * 5 + 4) (.int .i64 x.v) := by
  induction l generalizing i with
  | nil => simp [wcells]
  | cons a l ih =>
    cases i with
    | zero => simp [wcells, Wd.cells]
    | succ i =>
      have e : ∀ j, (i + 1) * 5 + j = i * 5 + j + 5 := fun j => by omega
      have e0 : (i + 1) * 5 = i * 5 + 5 := by omega
      have ih' := ih i
      simp only [wcells, List.flatMap_cons, List.set_cons_succ, Wd.cells, List.cons_append, List.nil_append] at ih' ⊢
      rw [ih']
      simp [e, e0]
/-- A word is written over. -/
theorem Hp.put {w : World} {b : Nat} {G : Option Nat} {l : List Wd} {m : Nat} (h : Hp w b G l m) {g : Nat} (hG : G = some g) (i : Nat) (hi : i < l.length) (x : Wd) (hx : x.low) :
    Hp (((((w.setCell ⟨g, i * 5, none⟩ (.int .u8 x.t)).setCell ⟨g, i * 5 + 1, none⟩ (.int .u8 x.p)).setCell ⟨g, i * 5 + 2, none⟩ (.int .u8 x.n)).setCell ⟨g, i * 5 + 3, none⟩ (.int .u8 x.s)).setCell ⟨g, i * 5 + 4, none⟩ (.int .i64 x.v)) b G (l.set i x) m := by
  have hne : b ≠ g := fun e => (h.glt g hG).2 e.symm
  obtain ⟨lv, h1, h2, h3, h4, h5⟩ := h
  have hg : lv.ownBlock = some g := h2.trans hG
  have hl := wcells_length l
  refine ⟨lv, ?_, h2, ?_, by rw [List.length_set]; exact h4, ?_⟩
  · rw [Below.heap_setCell _ _ _ _ hne, Below.heap_setCell _ _ _ _ hne, Below.heap_setCell _ _ _ _ hne, Below.heap_setCell _ _ _ _ hne, Below.heap_setCell _ _ _ _ hne]; exact h1
  · rw [wcells_set, List.length_set]
    refine own_set (own_set (own_set (own_set (own_set h3 hg _ ?_ _) hg _ ?_ _) hg _ ?_ _) hg _ ?_ _) hg _ ?_ _ <;> first | omega | (simp only [List.length_set]; omega)
  · intro y hy
    rcases List.mem_or_eq_of_mem_set hy with h | rfl
    · exact h5 y h
    · exact hx
/-- Its value alone. -/
theorem Hp.putv {w : World} {b : Nat} {G : Option Nat} {l : List Wd} {m : Nat} (h : Hp w b G l m) {g : Nat} (hG : G = some g) (i : Nat) (hi : i < l.length) (v : Int) :
    Hp (w.setCell ⟨g, i * 5 + 4, none⟩ (.int .i64 v)) b G (l.set i { l[i] with v := v }) m := by
  have hne : b ≠ g := fun e => (h.glt g hG).2 e.symm
  obtain ⟨lv, h1, h2, h3, h4, h5⟩ := h
  have hg : lv.ownBlock = some g := h2.trans hG
  have hl := wcells_length l
  refine ⟨lv, ?_, h2, ?_, by rw [List.length_set]; exact h4, ?_⟩
  · rw [Below.heap_setCell _ _ _ _ hne]; exact h1
  · have e : wcells (l.set i { l[i] with v := v }) = (wcells l).set (i * 5 + 4) (.int .i64 v) := by
      rw [wcells_set]
      have c : ∀ j, j < 5 → (wcells l)[i * 5 + j]? = l[i].cells[j]? := fun j hj => wcells_get l i hi j hj
      have s : ∀ (xs : List Value) (k : Nat) (u : Value), xs[k]? = some u → xs.set k u = xs := fun xs k u h => by
        apply List.ext_getElem?
        intro q
        rw [List.getElem?_set]
        split
        · rename_i e; subst e; split
          · exact h.symm
          · rename_i h9; rw [List.getElem?_eq_none (by omega)] at h; cases h
        · rfl
      rw [s _ (i * 5) _ (c 0 (by decide)), s _ (i * 5 + 1) _ (c 1 (by decide)), s _ (i * 5 + 2) _ (c 2 (by decide)), s _ (i * 5 + 3) _ (c 3 (by decide))]
    rw [e, List.length_set]
    exact own_set h3 hg _ (by omega) _
  · intro y hy
    rcases List.mem_or_eq_of_mem_set hy with h | rfl
    · exact h5 y h
    · exact h5 l[i] (List.getElem_mem _)
/-- The head alone. -/
theorem Hp.puth {w : World} {b : Nat} {G : Option Nat} {l : List Wd} {m : Nat} (h : Hp w b G l m) {g : Nat} (hG : G = some g) (i : Nat) (hi : i < l.length) (x : Wd) (hx : x.low) (hv : x.v = l[i].v) :
    Hp ((((w.setCell ⟨g, i * 5, none⟩ (.int .u8 x.t)).setCell ⟨g, i * 5 + 1, none⟩ (.int .u8 x.p)).setCell ⟨g, i * 5 + 2, none⟩ (.int .u8 x.n)).setCell ⟨g, i * 5 + 3, none⟩ (.int .u8 x.s)) b G (l.set i x) m := by
  have hne : b ≠ g := fun e => (h.glt g hG).2 e.symm
  obtain ⟨lv, h1, h2, h3, h4, h5⟩ := h
  have hg : lv.ownBlock = some g := h2.trans hG
  have hl := wcells_length l
  refine ⟨lv, ?_, h2, ?_, by rw [List.length_set]; exact h4, ?_⟩
  · rw [Below.heap_setCell _ _ _ _ hne, Below.heap_setCell _ _ _ _ hne, Below.heap_setCell _ _ _ _ hne, Below.heap_setCell _ _ _ _ hne]; exact h1
  · have e : wcells (l.set i x) = ((((wcells l).set (i * 5) (.int .u8 x.t)).set (i * 5 + 1) (.int .u8 x.p)).set (i * 5 + 2) (.int .u8 x.n)).set (i * 5 + 3) (.int .u8 x.s) := by
      rw [wcells_set]
      have c := wcells_get l i hi 4 (by decide)
      apply List.ext_getElem?
      intro q
      rw [List.getElem?_set]
      split
      · rename_i e; subst e
        simp only [List.length_set]
        rw [if_pos (by omega), List.getElem?_set_ne (by omega), List.getElem?_set_ne (by omega), List.getElem?_set_ne (by omega), List.getElem?_set_ne (by omega), c, hv]; rfl
      · rfl
    rw [e, List.length_set]
    refine own_set (own_set (own_set (own_set h3 hg _ ?_ _) hg _ ?_ _) hg _ ?_ _) hg _ ?_ _ <;> first | omega | (simp only [List.length_set]; omega)
  · intro y hy
    rcases List.mem_or_eq_of_mem_set hy with h | rfl
    · exact h5 y h
    · exact hx
theorem leadOn_any (w : World) (g i : Nat) (t p n s : Int) (hc : ∃ c, w.heap[g]? = some (.cells c 79 (0, 0))) (c0 : w.cell? ⟨g, i, none⟩ = some (.int .u8 t)) (c1 : w.cell? ⟨g, i + 1, none⟩ = some (.int .u8 p)) (c2 : w.cell? ⟨g, i + 2, none⟩ = some (.int .u8 n)) (c3 : w.cell? ⟨g, i + 3, none⟩ = some (.int .u8 s)) :
    Calls Try.prog 73 #[.pointer (some ⟨g, i, none⟩)] w fun e w' => e = .returned (.tuple #[]) ∧
      w' = (((w.setCell ⟨g, i, none⟩ (.int .u8 5)).setCell ⟨g, i + 1, none⟩ (.int .u8 1)).setCell ⟨g, i + 2, none⟩ (.int .u8 0)).setCell ⟨g, i + 3, none⟩ (.int .u8 s) := by
  obtain ⟨c, hc⟩ := hc
  have f : ∀ j, w.frozen? ⟨g, j, none⟩ = false := fun j => frozen_of_row w g j _ _ hc
  have f0 := f i
  have f1 := f (i + 1)
  have f2 := f (i + 2)
  have f3 := f (i + 3)
  clear f hc
  go_enter Try.func73, Try.ntmps73
  go_wp2
  go_end0
  exact ⟨rfl, rfl⟩
end Go.Proofs.Ytjecjlnkpbbanaa
