/- Facts for Read's labels. -/
import Derived.Test.YtkjcbaikebdmmaaDoorJ16
namespace Go.Proofs.YtkjcbaikebdmmaaDoor
open Go.RowKit
set_option linter.unusedVariables false
set_option linter.unusedSimpArgs false
theorem OwnS.low {S : Nat → Prop} {B B' : Nat} {w : World} {v : Value} {ds : List Dt} (h : OwnS S B w v ds) (hB : B' ≤ B) : OwnS S B' w v ds := by
  obtain ⟨xs, hown, hd⟩ := h
  refine ⟨xs, ⟨hown.1, ?_⟩, hd⟩
  rcases hown.2 with h | ⟨g, cap, cur, rfl, hb, r⟩
  · exact .inl h
  · exact .inr ⟨g, cap, cur, rfl, by omega, r⟩
theorem push_world {w w1 w2 w9 : World} {g : Nat} (hb : Below w.heap.size w w1) (hsz : w.heap.size + 1 ≤ w1.heap.size) (h2 : Below w1.heap.size w1 w2) (hg : w2.grownBy w9 (some g)) (hB : w.heap.size + 1 ≤ g) {C : Array Value} (hx : Boxed w.heap.size C w1) :
    Below w.heap.size w w9 ∧ w.heap.size + 1 ≤ w9.heap.size ∧ Boxed w.heap.size C w9 := by
  have s2 := h2.size
  have s9 := hg.size
  have h3 : Below w.heap.size w w2 := hb.trans (h2.mono (by omega))
  refine ⟨h3.grown hg (by omega) (fun k hk => by injection hk with hk; omega), by omega, ?_⟩
  unfold Boxed at hx ⊢
  rw [hg.block _ (by omega) (fun e => by injection e with e; omega), h2.block _ (by omega)]
  exact hx
/-- A world in which only blocks below B have turned keeps the stack. -/
theorem StackAt.low {D : Nat → Prop} {B : Nat} {w w' : World} {v : Value} {e : En} {r : List En} (h : StackAt D B w v e r) (hs : w.heap.size ≤ w'.heap.size) (hb : ∀ x, B ≤ x → x < w.heap.size → w'.heap[x]? = w.heap[x]?) : StackAt D B w' v e r := by
  obtain ⟨g, c, xs, rfl, ho, hg, hD, hE⟩ := h
  have ent : ∀ (es : List En) (U : Nat → Prop), Ents D B w xs es U → Ents D B w' xs es U := by
    intro es
    induction es with
    | nil => intro U _; trivial
    | cons e r ih =>
      intro U h
      obtain ⟨lv, k, hc, hk, hl, hu, hr⟩ := h
      refine ⟨lv, k, hc, hk, hl.keep (fun x c hxo hh => ?_) (fun x c T fz hDx hh _ => ⟨fz, ?_⟩), hu, ih _ hr⟩
      · rw [hb x (hl.lt hxo).1 (Array.getElem?_eq_some_iff.1 hh).1]; exact hh
      · rw [hb x (hD x hDx).1 (Array.getElem?_eq_some_iff.1 hh).1]; exact hh
  refine ⟨g, c, xs, rfl, ⟨ho.1, ?_⟩, hg, fun x hx => ⟨(hD x hx).1, by have := (hD x hx).2; omega⟩, ent _ _ hE⟩
  rcases ho.2 with h | ⟨g1, cap, cur, e1, hB, hh, rr⟩
  · exact .inl h
  · exact .inr ⟨g1, cap, cur, e1, hB, by rw [hb _ hB (Array.getElem?_eq_some_iff.1 hh).1]; exact hh, rr⟩
theorem byte_at (s : ByteArray) (i : Nat) (h : i < s.size) : s.data.toList[i]? = some s[i] := by
  rw [List.getElem?_eq_getElem (by rw [← Lib.size_eq]; exact h)]
  simp
  rfl
theorem StackAt.dat {D : Nat → Prop} {B : Nat} {w : World} {v : Value} {e : En} {r : List En} (h : StackAt D B w v e r) : ∀ x, D x → B ≤ x ∧ x < w.heap.size := by
  obtain ⟨g, c, xs, rfl, ho, hg, hD, hE⟩ := h
  exact hD
theorem setRow_box (w : World) (g : Nat) (C cs : Array Value) (h : w.heap[g]? = some (.cells C 40 (0, 0))) : (w.setRow g cs).heap[g]? = some (.cells cs 40 (0, 0)) := setRow_heap w g C cs 40 (0, 0) h
/-- The part that is put lies in its box. -/
theorem box_set {w w1 w2 : World} {C : Array Value} (h : Below w.heap.size w w1 ∧ w.heap.size + 1 ≤ w1.heap.size ∧ Boxed w.heap.size C w1) (h2 : Below w1.heap.size w1 w2) (cs : Array Value) :
    (Below w.heap.size w (w2.setRow w.heap.size cs) ∧ w.heap.size + 1 ≤ (w2.setRow w.heap.size cs).heap.size ∧ Boxed w.heap.size cs (w2.setRow w.heap.size cs)) ∧ (∀ x, w.heap.size + 1 ≤ x → x < w2.heap.size → (w2.setRow w.heap.size cs).heap[x]? = w2.heap[x]?) ∧ w2.heap.size ≤ (w2.setRow w.heap.size cs).heap.size := by
  obtain ⟨hb, hs, hx⟩ := h
  have s2 := h2.size
  refine ⟨⟨below_setRowB (hb.trans (h2.mono (by omega))) _ _ (Nat.le_refl _), by simp; omega, ?_⟩, fun x h1 _ => ?_, by simp⟩
  · refine setRow_box w2 _ C cs ?_
    unfold Boxed at hx
    rw [h2.block _ (by omega)]; exact hx
  · exact setRow_other w2 _ x cs (by omega)
theorem box_keep {w w1 w2 : World} {C : Array Value} (h : Below w.heap.size w w1 ∧ w.heap.size + 1 ≤ w1.heap.size ∧ Boxed w.heap.size C w1) (h2 : Below w1.heap.size w1 w2) : w2.heap[w.heap.size]? = some (.cells C 40 (0, 0)) := by
  rw [h2.block _ (by omega)]; exact h.2.2
theorem keeps_of {D : Nat → Prop} {B : Nat} {w w' : World} (hD : ∀ x, D x → B ≤ x ∧ x < w.heap.size) (h : ∀ x, B ≤ x → x < w.heap.size → w'.heap[x]? = w.heap[x]?) : Keeps D w w' := by
  intro g c T fz hd hg _
  exact ⟨fz, by rw [h g (hD g hd).1 (hD g hd).2]; exact hg⟩
/-- The place of the part in its box. -/
theorem box_at {w W : World} {a b c d e v : Value} (h : Below w.heap.size w W ∧ w.heap.size + 1 ≤ W.heap.size ∧ Boxed w.heap.size #[a, b, c, d, e] W) :
    (Below w.heap.size w (W.setCell ⟨w.heap.size, 4, none⟩ v) ∧ w.heap.size + 1 ≤ (W.setCell ⟨w.heap.size, 4, none⟩ v).heap.size ∧ Boxed w.heap.size #[a, b, c, d, v] (W.setCell ⟨w.heap.size, 4, none⟩ v)) ∧ (∀ x, w.heap.size + 1 ≤ x → (W.setCell ⟨w.heap.size, 4, none⟩ v).heap[x]? = W.heap[x]?) ∧ W.heap.size ≤ (W.setCell ⟨w.heap.size, 4, none⟩ v).heap.size := by
  obtain ⟨hb, hs, hx⟩ := h
  refine ⟨⟨hb.setCell (p := ⟨w.heap.size, 4, none⟩) (Nat.le_refl _) v, by simp [World.setCell]; omega, ?_⟩, fun x h1 => heap_setCell_other W _ x v (by simp; omega), by simp [World.setCell]⟩
  exact heap_setCell_same W _ 4 _ 40 v hx
/-- The world behind put. -/
theorem put_world {w w1 w2 : World} {D : Nat → Prop} {B g o : Nat} {arr : Array Value} {lv : Value} {ds : List Dt} {C : Array Value} (h : Below w.heap.size w w1 ∧ w.heap.size + 1 ≤ w1.heap.size ∧ Boxed w.heap.size C w1) (hp : PutDone D B g o arr lv ds w1 w2) (hg : w.heap.size < g) (hl : ∀ x, lv.ownBlock = some x → w.heap.size < x) :
    Below w.heap.size w w2 ∧ w.heap.size + 1 ≤ w2.heap.size ∧ Boxed w.heap.size C w2 := by
  obtain ⟨hb, hs, hx⟩ := h
  obtain ⟨v', p1, p2, p3, p4, p5, p6, p7, p8⟩ := hp
  have key : ∀ x, x ≤ w.heap.size → w2.heap[x]? = w1.heap[x]? := fun x hx => p8 x (by omega) (by omega) (fun e => by have := hl x e; omega)
  refine ⟨⟨p4.trans hb.os, p5.trans hb.tape, p6.trans hb.output, by have := hb.size; omega, fun k hk => (key k (by omega)).trans (hb.block k hk)⟩, by omega, ?_⟩
  unfold Boxed at hx ⊢
  rw [key _ (Nat.le_refl _)]; exact hx
theorem start_world (w W : World) (h : W = (w.alloc (.cells Z5 40)).alloc (.cells Z6 55)) :
    (Below w.heap.size w W ∧ w.heap.size + 1 ≤ W.heap.size ∧ Boxed w.heap.size Z5 W) ∧ StackAt (fun _ => False) (w.heap.size + 1) W (.slice (some ⟨w.heap.size + 1, 0, none⟩) 1 1) ⟨0, false, []⟩ [] := by
  have h0 := alloc_at w (.cells Z5 40)
  have h1 := alloc_at (w.alloc (.cells Z5 40)) (.cells Z6 55)
  have hs : (w.alloc (.cells Z5 40)).heap.size = w.heap.size + 1 := by simp
  rw [hs] at h1
  have hb : Below w.heap.size w ((w.alloc (.cells Z5 40)).alloc (.cells Z6 55)) := ((Below.refl w.heap.size w).alloc (Nat.le_refl _) (.cells Z5 40)).alloc (by simp) (.cells Z6 55)
  refine ⟨⟨h ▸ hb, by rw [h]; simp, ?_⟩, ?_⟩
  · rw [h]
    exact (Lib.alloc_old (w.alloc (.cells Z5 40)) (.cells Z6 55) w.heap.size (by simp)).trans h0
  · rw [h]
    refine ⟨w.heap.size + 1, 1, Z6.toList, rfl, ⟨rfl, .inr ⟨w.heap.size + 1, 1, Z6, rfl, Nat.le_refl _, h1, Nat.le_refl _, by decide, rfl, rfl⟩⟩, fun h => h, fun x h => h.elim, ?_⟩
    exact ⟨.slice none 0 0, 0, ⟨rfl, rfl, rfl, rfl, rfl, rfl⟩, fun h => absurd rfl h, OwnS.nil _ _ _, nofun, trivial⟩
theorem Jr.into {s : ByteArray} {w0 : World} {R : Rs} {n l : Nat} {a : Act} {w : World} (p : Nat) (v : Value) (e : En) (r : List En) (D : Nat → Prop) (pc : Pc) (C : Array Value) (ht : Tm s p w0.heap.size v a) (hl : pc.label = l) (hr : rd s.data.toList n pc p e r = some R)
    (hs : StackAt D (w0.heap.size + 1) w v e r) (hw : Below w0.heap.size w0 w ∧ w0.heap.size + 1 ≤ w.heap.size ∧ Boxed w0.heap.size C w) (hC : C.size = 5) (hd : ∀ d, pc = .put d → Dt.At D w d C) (hp : p ≤ s.size) (hrl : r.length ≤ 60)
    (hds : ∀ x, x ∈ e :: r → x.ds.length + (match pc with | .put _ => 1 | _ => 0) ≤ p) (hbg : pc = .begin → p < s.size) (hfi : pc = .finish → p < s.size) : Jr s w0 R n l a w :=
  ⟨p, v, e, r, D, pc, C, ht, hl, hr, hs, hw.1, hw.2.1, hw.2.2, hC, hd, hp, hrl, hds, hbg, hfi⟩
end Go.Proofs.YtkjcbaikebdmmaaDoor
