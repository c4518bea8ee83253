/- What HeapOver's walk needs. -/
import Derived.Test.YtogpmpnojlepoaaLP
namespace Go.Proofs.Ytogpmpnojlepoaa
open Go Go.RowKit
set_option linter.unusedVariables false
set_option linter.unusedSimpArgs false
theorem own_cells {w : World} {B : Nat} {v : Value} {n : Nat} {xs : List Int} (h : w.ownsRow B 3 1 v n (xs.map (Value.int .i64))) (h0 : 0 < n) : ∃ g c, v = .slice (some ⟨g, 0, none⟩) n c ∧ B ≤ g ∧ g < w.heap.size ∧ n ≤ c ∧ ∀ i (h : i < xs.length), w.cell? ⟨g, i, none⟩ = some (.int .i64 xs[i]) := by
  have hl : n = xs.length := by have := h.1; simpa using this.symm
  rcases h.2 with ⟨rfl, h1⟩ | ⟨g, cap, cur, rfl, hb, hh, hn, hm, hs, ht⟩
  · omega
  · refine ⟨g, cap, rfl, hb, (Array.getElem?_eq_some_iff.1 hh).1, by omega, fun i hi => ?_⟩
    rw [cell_of_row _ _ _ _ _ _ hh, ← Array.getElem?_toList]
    have h1 : (cur.toList.take (n * 1))[i]? = some (.int .i64 xs[i]) := by rw [ht, List.getElem?_map, List.getElem?_eq_getElem hi]; rfl
    rw [List.getElem?_take] at h1
    split at h1
    · exact h1
    · cases h1
theorem Fr.cellAt {F : Nat → Prop} {w w' : World} (hf : Fr F w w') {g i : Nat} {v : Value} (h : w.cell? ⟨g, i, none⟩ = some v) (hn : ¬ F g) : w'.cell? ⟨g, i, none⟩ = some v :=
  (World.cell?_of_block (w := w) (a := ⟨g, i, none⟩) (hf.block g (World.block_lt_of_cell? w _ h) hn)).trans h
theorem over_facts {os : List Ob} (hk : Oks os) {i : Nat} (hi : i < os.length) (v : Int) : total (upd os i (fun o => overO o v)) = total os ∧ (upd os i (fun o => overO o v)).length = os.length ∧
    ptrsOf (upd os i (fun o => overO o v)) (adr os i : Nat) = [v] ∧ numsOf (upd os i (fun o => overO o v)) (adr os i : Nat) = [] ∧ (hdo (upd os i (fun o => overO o v)) (adr os i : Nat)).t = 5 := by
  rw [upd_eq hi]
  have e : (overO os[i] v).body.length = os[i].body.length := by simp [overO]
  have ho : ob (os.set i (overO os[i] v)) (adr os i : Nat) = some (overO os[i] v) := by rw [ob_set hi e, if_pos rfl]
  refine ⟨total_set hi e, List.length_set, ?_, ?_, ?_⟩
  · unfold ptrsOf; rw [ho]; exact overO_ptrs _ _ (hk _ (List.getElem_mem hi)).b1
  · unfold numsOf; rw [ho]; simp [Ob.nums, overO]
  · unfold hdo; rw [ho]; rfl
/-- Both heaps turned alike, to what is known. -/
theorem Pr.both2 {B w w0 w1 w2 w3 : World} {b x : Nat} {G : Option Nat} {C : Nat → Nat} {qs : List Nat} {os os' : List Ob} {m : Nat} {v1 v2 : Value} {e1 e2 : Ending} (h : Pr B w b x G C qs os m) (h0 : Below w.heap.size w w0) (h1 : RetHp v1 b G os' m w0 e1 w1)
    (h3 : RetR v2 x C os' m w2 e2 w3) (h4 : Below w1.heap.size w1 w2) : ∃ G' C' qs', Pr B w3 b x G' C' qs' os' m ∧ Fr (fp b G C) w w3 := by
  obtain ⟨-, G', a1, a2, a3⟩ := h1
  obtain ⟨-, C', qs', c1, c2, c3⟩ := h3
  have k0 := h.below h0
  have s0 := h0.size
  have s1 := a2.size
  have s2 := h4.size
  have hG' : ∀ k, G' = some k → C k = 0 := by
    intro k hk
    rcases a3 k hk with h5 | h5
    · exact h.cg k h5
    · exact k0.rh.fresh k h5
  have hl1 : HL B w1 b G' os' m := ⟨a1, k0.hl.bel.trans (a2.below (fun y hy h9 => by
      rcases h9 with h9 | h9
      · have := h.hl.hb; omega
      · have := h.hl.hg y h9; omega) k0.hl.bel.size), h.hl.hb, fun k hk => by
    rcases a3 k hk with h5 | h5
    · exact h.hl.hg k h5
    · have := k0.hl.bel.size; omega⟩
  have hl2 : HL B w2 b G' os' m := hl1.below h4
  have hl3 : HL B w3 b G' os' m := hl2.fr c2 (fun e => e h.cb) (fun k hk e => e (hG' k hk)) (fun k hk e => by have := h.cB k e; omega)
  have f1 : Fr (fp b G C) w w1 := (Fr.of_below h0).trans a2 (fun k _ hk => .inl hk)
  have f2 : Fr (fp b G C) w w2 := f1.trans (Fr.of_below (F := fun _ => False) h4) (fun _ _ h => h.elim)
  have f3 : Fr (fp b G C) w w3 := f2.trans c2 (fun k _ hk => .inr hk)
  refine ⟨G', C', qs', ⟨hl3, c1, ?_, ?_, ?_⟩, f3⟩
  · apply Classical.byContradiction
    intro e
    rcases c3 b e with h5 | h5
    · exact h5 h.cb
    · have := hl2.hp.1.lt; omega
  · intro k hk
    apply Classical.byContradiction
    intro e
    rcases c3 k e with h5 | h5
    · exact h5 (hG' k hk)
    · have := (hl2.hp.1.glt k hk).1; omega
  · intro k hk
    rcases c3 k hk with h5 | h5
    · exact h.cB k h5
    · have := hl2.bel.size; omega
/-- The document's heap stands still while the program's turns. -/
theorem Pr.rh_own {B w w0 w1 w2 : World} {b x : Nat} {G : Option Nat} {C : Nat → Nat} {qs : List Nat} {os os' : List Ob} {m : Nat} {v1 : Value} {e1 : Ending} (h : Pr B w b x G C qs os m) (h0 : Below w.heap.size w w0) (h1 : RetHp v1 b G os' m w0 e1 w1) (h4 : Below w1.heap.size w1 w2) : Rh w2 x C qs os m := by
  obtain ⟨-, G', a1, a2, a3⟩ := h1
  refine ((h.below h0).rh.fr a2 (fun k hk => ?_)).below h4
  rcases hk with rfl | hk
  · exact h.cb
  · exact h.cg k hk
end Go.Proofs.Ytogpmpnojlepoaa
