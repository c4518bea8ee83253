/- The stack: the innermost list is taken off; one is put on. -/
import Derived.Test.YtkjcbaikebdmmaaDoorJ7
namespace Go.Proofs.YtkjcbaikebdmmaaDoor
open Go.RowKit
set_option linter.unusedVariables false
set_option linter.unusedSimpArgs false
theorem OwnS.lat {S : Nat → Prop} {B : Nat} {w : World} {v : Value} {ds : List Dt} (h : OwnS S B w v ds) : LAt (fun g => S g ∨ v.ownBlock = some g) w v ds := by
  obtain ⟨xs, hown, hd⟩ := h
  rcases hown.2 with ⟨rfl, hz⟩ | ⟨g, cap, cur, rfl, hbg, hg, hnc, hcm, hcs, htake⟩
  · exact .inl ⟨rfl, List.length_eq_zero_iff.1 hz⟩
  · refine .inr ⟨g, 0, cap, cur, (0, 0), rfl, .inr rfl, hg, Dts.At.of_get _ _ _ fun j hj => ?_⟩
    obtain ⟨cs, h5, h1, h2⟩ := hd j hj
    refine ⟨cs, fun i hi => ?_, Dt.At.mono (fun g h => .inl h) _ _ h2⟩
    rw [← h1 i hi, ← htake, List.getElem?_take, if_pos (by omega)]
    simp
theorem StackAt.finish {D : Nat → Prop} {B : Nat} {w : World} {v : Value} {e f : En} {r : List En} (h : StackAt D B w v e (f :: r)) :
    ∃ g c lv, v = .slice (some ⟨g, 0, none⟩) (r.length + 1 + 1) c ∧ r.length + 1 + 1 ≤ c ∧ c ≤ maxLen ∧ B ≤ g ∧ lv.oneCell' = true ∧
      (w.cell? ⟨g, (r.length + 1) * 6, none⟩ = some (.int .i64 4) ∧ w.cell? ⟨g, (r.length + 1) * 6 + 1, none⟩ = some (.string ⟨#[]⟩) ∧ w.cell? ⟨g, (r.length + 1) * 6 + 2, none⟩ = some (.slice none 0 0) ∧ w.cell? ⟨g, (r.length + 1) * 6 + 3, none⟩ = some lv ∧ w.cell? ⟨g, (r.length + 1) * 6 + 4, none⟩ = some (.int .i64 e.pl) ∧ w.cell? ⟨g, (r.length + 1) * 6 + 5, none⟩ = some (.bool e.q)) ∧
      ∃ D', (∀ x, D x → D' x) ∧ StackAt D' B w (.slice (some ⟨g, 0, none⟩) (r.length + 1) c) f r ∧ Dt.At D' w e.dt #[.int .i64 4, .string ⟨#[]⟩, .slice none 0 0, lv, .int .i64 e.pl] := by
  obtain ⟨g, c, xs, rfl, ho, hgD, hD, hE⟩ := h
  simp only [List.length_cons] at ho
  rcases ho.2 with ⟨e1, _⟩ | ⟨g1, cap, cur, e1, hB, hh, hnc, hcm, hcs, ht⟩
  · cases e1
  injection e1 with e1 _ e3
  injection e1 with e1
  injection e1 with e1 _ _
  subst e1 e3
  have hxl : xs.length = (r.length + 1 + 1) * 6 := ho.1
  have hx : ∀ i, i < (r.length + 1 + 1) * 6 → cur[i]? = xs[i]? := fun i hi => by
    rw [← ht, List.getElem?_take, if_pos hi]; simp
  obtain ⟨lv, k, ⟨c0, c1, c2, c3, c4, c5⟩, hk, hl, hu, hr⟩ := hE
  have hk4 := hk (by simp)
  subst hk4
  simp only [List.length_cons] at c0 c1 c2 c3 c4 c5
  have cell : ∀ i, i < 6 → w.cell? ⟨g, (r.length + 1) * 6 + i, none⟩ = xs[(r.length + 1) * 6 + i]? := fun i hi => by rw [Lib.cell_of_heap hh, hx _ (by omega)]
  refine ⟨g, c, lv, rfl, hnc, hcm, hB, ?_, ⟨(cell 0 (by omega)).trans c0, (cell 1 (by omega)).trans c1, (cell 2 (by omega)).trans c2, (cell 3 (by omega)).trans c3, (cell 4 (by omega)).trans c4, (cell 5 (by omega)).trans c5⟩, fun x => D x ∨ lv.ownBlock = some x, fun x h => .inl h, ?_, ?_⟩
  · exact hl.lat.one
  · refine ⟨g, c, xs.take ((r.length + 1) * 6), rfl, ⟨by simp [hxl], .inr ⟨g, c, cur, rfl, hB, hh, by omega, hcm, hcs, by rw [← ht, List.take_take]; congr 1; omega⟩⟩, ?_, ?_, ?_⟩
    · rintro (h | h)
      · exact hgD h
      · exact hu g h (.inr rfl)
    · rintro x (h | h)
      · exact hD x h
      · exact hl.lt h
    · have h1 : Ents D B w (xs.take ((r.length + 1) * 6)) (f :: r) _ := Ents.move (f :: r) _ hr (fun i hi => by rw [List.getElem?_take, if_pos (by simpa using hi)]) (fun x _ _ => rfl)
      refine Ents.fresh (fun x h => .inl h) (f :: r) _ _ h1 (fun x _ h => ?_)
      rcases h with (h | h) | h
      · exact .inl (.inl h)
      · exact .inr h
      · exact .inl (.inr h)
  · show Dt.At _ w (.mk 4 ⟨#[]⟩ [] e.ds e.pl) _
    rw [At_mk]
    exact ⟨_, _, rfl, .inl ⟨rfl, rfl⟩, hl.lat⟩
end Go.Proofs.YtkjcbaikebdmmaaDoor
