/- A slice of raw data that came in is opened. -/
import Derived.Test.YtkjcbaikebdmmaaDoorW1
namespace Go.Proofs.YtkjcbaikebdmmaaDoor
open Go.RowKit Go.ChangeShapes Go.WideShapes Go.Deep
set_option linter.unusedVariables false

theorem list_of {α : Type} (p : Nat → α → Prop) : ∀ (n : Nat), (∀ i, i < n → ∃ r, p i r) → ∃ l : List α, l.length = n ∧ ∀ i (h : i < l.length), p i l[i]
  | 0, _ => ⟨[], rfl, fun i h => by simp at h⟩
  | n + 1, H => by
    obtain ⟨l, hl, hp⟩ := list_of p n (fun i hi => H i (by omega))
    obtain ⟨r, hr⟩ := H n (by omega)
    refine ⟨l ++ [r], by simp [hl], fun i h => ?_⟩
    by_cases hi : i < l.length
    · rw [List.getElem_append_left hi]; exact hp i hi
    · have : i = l.length := by simp at h; omega
      subst this
      rw [List.getElem_append_right (by omega)]
      simp [hl]; exact hr
theorem cells47 : Tryd.prog.cellsOf 74 = 3 := by kernel_rfl

section
variable {H : Type} {enc : TypeId × Value → H} {w : World} {base : Nat} {spare : Nat → Bool} {held : Bool}
set_option maxRecDepth 100000 in
theorem raws_open (N : Nat) : ∀ (fuel : Nat), fuel ≤ N → ∀ (cs : List Value) (x : DataW H × List MemPlace), DataW.trod enc Tryd.prog w base spare held fuel 35 cs = some x →
    ∃ ao cap, ∃ l : List Rw, cs = [.slice ao l.length cap] ∧ RsAt w ao l := by
  induction N with
  | zero =>
    intro fuel hf cs x h
    obtain rfl : fuel = 0 := by omega
    simp [DataW.trod] at h
  | succ N ih =>
    intro fuel hf cs x h
    rcases DataW.trod_slice Tryd.underlying35 h with ⟨rfl, _⟩ | ⟨a, len, cap, elems, rest, n, rfl, rfl, _, _, hlc, hcm, hlen, hel, _, _⟩
    · exact ⟨none, 0, [], rfl, by simp [maxLen], .inl rfl⟩
    · have one : ∀ i, i < len → ∃ r, Rw.At w r (a.add (i * 3)) := by
        intro i hi
        have h1 := hel i hi
        rw [cells47] at h1
        have h2 : elems[i]? = some (elems[i]'(by omega)) := List.getElem?_eq_getElem (by omega)
        rw [h2] at h1
        obtain ⟨cs', hc, ht⟩ := Option.bind_eq_some_iff.1 h1
        obtain ⟨_, hcl, hat⟩ := World.cells?_some hc
        obtain ⟨ys, n', rfl, _, _, hyl, hfield⟩ := DataW.trod_struct Tryd.underlying74 ht
        match cs', hcl with
        | [c0, c1, c2], _ =>
          have f0 := hfield 0 _ rfl
          have f1 := hfield 1 _ rfl
          have f2 := hfield 2 _ rfl
          obtain ⟨y0, g0⟩ : ∃ y, ys[0]? = some y := ⟨_, List.getElem?_eq_getElem (by rw [hyl]; decide)⟩
          obtain ⟨y1, g1⟩ : ∃ y, ys[1]? = some y := ⟨_, List.getElem?_eq_getElem (by rw [hyl]; decide)⟩
          obtain ⟨y2, g2⟩ : ∃ y, ys[2]? = some y := ⟨_, List.getElem?_eq_getElem (by rw [hyl]; decide)⟩
          have c1' : Tryd.prog.cellsOf 3 = 1 := by kernel_rfl
          have c2' : Tryd.prog.cellsOf 35 = 1 := by kernel_rfl
          have f0' : DataW.trod enc Tryd.prog w base spare held n' 3 [c0] = some y0 := by
            have := f0.trans g0
            simpa [c1'] using this
          have f1' : DataW.trod enc Tryd.prog w base spare held n' 3 [c1] = some y1 := by
            have := f1.trans g1
            simpa [c1'] using this
          have f2' : DataW.trod enc Tryd.prog w base spare held n' 35 [c2] = some y2 := by
            have := f2.trans g2
            simpa [c2'] using this
          obtain ⟨k, e0, _, w0⟩ := DataW.trod_int Tryd.underlying3 f0'
          obtain ⟨m, e1, _, w1⟩ := DataW.trod_int Tryd.underlying3 f1'
          obtain ⟨po, pc, pl, e2, hp⟩ := ih n' (by omega) _ _ f2'
          have q0 := hat 0 (by decide)
          have q1 := hat 1 (by decide)
          have q2 := hat 2 (by decide)
          simp only [List.cons.injEq, and_true] at e0 e1 e2
          subst e0 e1 e2
          refine ⟨.mk k m pl, ?_⟩
          unfold Rw.At
          exact ⟨q0, q1, wf_I64 _ w0, wf_I64 _ w1, po, pc, q2, hp.1, hp.2⟩
      obtain ⟨l, hl, hp⟩ := list_of _ len one
      subst hl
      exact ⟨some a, cap, l, rfl, by omega, .inr ⟨a, rfl, Rws.At.of_get l a hp⟩⟩
set_option maxRecDepth 100000 in
/-- A slice of raw data among the arguments. -/
theorem open_raws {v : Value} {d : DataW H} {p : List MemPlace} (hv : ∃ a n c, v = .slice a n c) (h : DataW.Trod enc Tryd.prog w base spare held 35 v d p) :
    ∃ ao cap, ∃ l : List Rw, v = .slice ao l.length cap ∧ RsAt w ao l := by
  obtain ⟨a, n, c, rfl⟩ := hv
  obtain ⟨fuel, hf⟩ := h
  obtain ⟨ao, cap, l, e, hl⟩ := raws_open fuel fuel (Nat.le_refl _) _ _ hf
  simp [Value.cells] at e
  obtain ⟨rfl, rfl, rfl⟩ := e
  exact ⟨_, _, l, rfl, hl⟩
end
end Go.Proofs.YtkjcbaikebdmmaaDoor
