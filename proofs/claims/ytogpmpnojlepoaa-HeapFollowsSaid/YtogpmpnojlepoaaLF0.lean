/- HeapFollows: the law's row beside its heap. -/
import Derived.Test.YtogpmpnojlepoaaF1
namespace Go.Proofs.Ytogpmpnojlepoaa
open Go Go.RowKit
set_option linter.unusedVariables false
set_option linter.unusedSimpArgs false
/-- A row of integers at the front of a block. -/
def RG (w : World) (g : Nat) (l : List Int) : Prop := ∃ cur, w.heap[g]? = some (.cells cur 3 (0, 0)) ∧ cur.toList.take l.length = l.map (Value.int .i64)
theorem RG.lt {w : World} {g : Nat} {l : List Int} (h : RG w g l) : g < w.heap.size := by
  obtain ⟨cur, h1, -⟩ := h
  exact (Array.getElem?_eq_some_iff.1 h1).1
theorem RG.cell {w : World} {g : Nat} {l : List Int} (h : RG w g l) (j : Nat) (hj : j < l.length) : w.cell? ⟨g, j, none⟩ = some (.int .i64 l[j]) := by
  obtain ⟨cur, h1, h2⟩ := h
  rw [cell_of_row _ _ _ _ _ _ h1, ← Array.getElem?_toList]
  have h3 : (cur.toList.take l.length)[j]? = some (.int .i64 l[j]) := by rw [h2, List.getElem?_map, List.getElem?_eq_getElem hj]; rfl
  rw [List.getElem?_take, if_pos hj] at h3
  exact h3
theorem RG.free {w : World} {g : Nat} {l : List Int} (h : RG w g l) (j : Nat) : w.frozen? ⟨g, j, none⟩ = false := by
  obtain ⟨cur, h1, -⟩ := h
  exact frozen_of_row _ _ _ _ _ h1
theorem RG.put {w : World} {g : Nat} {l : List Int} (h : RG w g l) (j : Nat) (v : Int) : RG (w.setCell ⟨g, j, none⟩ (.int .i64 v)) g (l.set j v) := by
  obtain ⟨cur, h1, h2⟩ := h
  refine ⟨_, heap_setCell_same w g j _ 3 (.int .i64 v) h1, ?_⟩
  rw [Array.toList_setIfInBounds, List.length_set, List.take_set, h2, List.map_set]
theorem RG.fr {F : Nat → Prop} {w w' : World} {g : Nat} {l : List Int} (h : RG w g l) (hf : Fr F w w') (hn : ¬ F g) : RG w' g l := by
  obtain ⟨cur, h1, h2⟩ := h
  exact ⟨cur, (hf.block g (Array.getElem?_eq_some_iff.1 h1).1 hn).trans h1, h2⟩
theorem RG.of_own {w : World} {B n : Nat} {v : Value} {xs : List Int} (h : w.ownsRow B 3 1 v n (xs.map (Value.int .i64))) (h0 : 0 < n) : ∃ g c, v = .slice (some ⟨g, 0, none⟩) n c ∧ B ≤ g ∧ RG w g xs := by
  have hl : n = xs.length := by have := h.1; simpa using this.symm
  rcases h.2 with ⟨_, h1⟩ | ⟨g, cap, cur, rfl, hb, hh, hn, hm, hs, ht⟩
  · omega
  · refine ⟨g, cap, rfl, hb, cur, hh, ?_⟩
    rw [← hl]
    simpa using ht
/-- The heap and the row. -/
def St (B w : World) (b g : Nat) (G : Option Nat) (os : List Ob) (l : List Int) : Prop := HL B w b G os 100 ∧ RG w g l ∧ g ≠ b ∧ G ≠ some g ∧ B.heap.size ≤ g
theorem St.below {B w w' : World} {b g : Nat} {G : Option Nat} {os : List Ob} {l : List Int} (h : St B w b g G os l) (hb : Below w.heap.size w w') : St B w' b g G os l :=
  ⟨h.1.below hb, h.2.1.fr (F := fun _ => False) (Fr.of_below hb) (fun h => h), h.2.2⟩
theorem St.turn {v : Value} {B w w' : World} {b g : Nat} {G : Option Nat} {os os' : List Ob} {l : List Int} {e : Ending} (h : St B w b g G os l) (hr : RetHp v b G os' 100 w e w') : e = .returned v ∧ ∃ G', St B w' b g G' os' l := by
  obtain ⟨h1, h2, h3, h4, h5⟩ := h
  have h0 := hr
  obtain ⟨he, G', a1, a2, a3⟩ := hr
  have hs := h1.bel.size
  have hlt := h2.lt
  refine ⟨he, G', ⟨a1, h1.bel.trans (a2.below (fun x hx hF => ?_) hs), h1.hb, fun k hk => ?_⟩, h2.fr a2 (fun hF => ?_), h3, fun e => ?_, h5⟩
  · rcases hF with hF | hF
    · have := h1.hb; omega
    · have := h1.hg x hF; omega
  · rcases a3 k hk with hk | hk
    · exact h1.hg k hk
    · omega
  · rcases hF with hF | hF
    · exact h3 hF
    · exact h4 hF
  · rcases a3 _ e with hk | hk
    · exact h4 hk
    · omega
theorem St.put {B w : World} {b g : Nat} {G : Option Nat} {os : List Ob} {l : List Int} (h : St B w b g G os l) (j : Nat) (v : Int) : St B (w.setCell ⟨g, j, none⟩ (.int .i64 v)) b g G os (l.set j v) := by
  obtain ⟨h1, h2, h3, h4, h5⟩ := h
  exact ⟨h1.fr (F := fun x => x = g) (Fr.setCell (F := fun x => x = g) (p := ⟨g, j, none⟩) (Fr.refl _ _) rfl _) (fun h => h3 h.symm) (fun x hx h => h4 (by rw [hx, h])) (fun x hx h => by omega), h2.put j v, h3, h4, h5⟩
/-- Over, in a chain. -/
theorem ch_over {w : World} {b : Nat} {G : Option Nat} {os : List Ob} {l : List Int} {i : Nat} (h : Ch os l i) (hh : HpO w b G os 100) (h2 : 2 ≤ l.length) (hi : i < l.length) :
    ∃ os', Ch os' l (i + 1) ∧ ∀ W, Below w.heap.size w W → Calls Try.prog 29 #[.pointer (some ⟨b, 0, none⟩), .int .i64 (l.getD i 0), .int .i64 (l.getD ((i + 1) % l.length) 0)] W (RetHp (.bool true) b G os' 100 W) := by
  have hm : (i + 1) % l.length < l.length := Nat.mod_lt _ (by omega)
  have hne : (i + 1) % l.length ≠ i := by
    by_cases h3 : i + 1 < l.length
    · rw [Nat.mod_eq_of_lt h3]; omega
    · rw [show i + 1 = l.length by omega, Nat.mod_self]; omega
  obtain ⟨k, hk, e1, e2, e3⟩ := ch_loc h hi
  obtain ⟨k2, hk2, d1, d2, d3⟩ := ch_loc h hm
  have ht := hh.2.2.2.1
  have hr := hh.2.2.2.2
  have b1 := adr_le hk
  have b2 := adr_le hk2
  refine ⟨_, ch_step h hi e1, fun W hb => ?_⟩
  rw [getD_at hi, getD_at hm]
  exact over_yes (hh.below hb) l[i] l[(i + 1) % l.length] (by omega) (by omega) (by omega) (by omega) k e1 (fun e => hne (h.2.2.1 i _ hi hm e).symm) (by rw [d3]; rfl)
theorem ch_bd {w : World} {b : Nat} {G : Option Nat} {os : List Ob} {l : List Int} {i j : Nat} (h : Ch os l i) (hh : HpO w b G os 100) (hj : j < l.length) : 0 ≤ l[j] ∧ l[j] ≤ 1000000 := by
  obtain ⟨k, hk, e1, e2, e3⟩ := ch_loc h hj
  have ht := hh.2.2.2.1
  have hr := hh.2.2.2.2
  have b1 := adr_le hk
  omega
theorem ch_tag {os : List Ob} {l : List Int} {i j : Nat} (h : Ch os l i) (hj : j < l.length) : (hdo os l[j]).t = if j < i then 5 else 4 := by
  obtain ⟨o, o1, o2, o3, o4⟩ := h.2.2.2 j hj
  unfold hdo
  rw [o1]
  by_cases hi : j < i
  · rw [if_pos hi]; exact (o3 hi).1
  · rw [if_neg hi]; exact o4 (by omega)
end Go.Proofs.Ytogpmpnojlepoaa
