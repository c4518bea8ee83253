/- put: one part more in the innermost list. -/
import Derived.Test.YtkjcbaikebdmmaaDoorJ3
namespace Go.Proofs.YtkjcbaikebdmmaaDoor
open Go.RowKit
set_option linter.unusedVariables false
set_option linter.unusedSimpArgs false
/-- A row with five cells written over. -/
def put5 (arr : Array Value) (o : Nat) (a b c d e : Value) : Array Value := ((((arr.setIfInBounds o a).setIfInBounds (o + 1) b).setIfInBounds (o + 1 + 1) c).setIfInBounds (o + 1 + 1 + 1) d).setIfInBounds (o + 1 + 1 + 1 + 1) e
theorem setCells5 (w : World) (g o : Nat) (arr : Array Value) (T : TypeId) (a b c d e : Value) (hg : w.heap[g]? = some (.cells arr T (0, 0))) :
    (w.setCells g o [a, b, c, d, e]).heap[g]? = some (.cells (put5 arr o a b c d e) T (0, 0)) := by
  simp only [World.setCells]
  exact heap_setCell_same _ g _ _ T e (heap_setCell_same _ g _ _ T d (heap_setCell_same _ g _ _ T c (heap_setCell_same _ g _ _ T b (heap_setCell_same _ g _ _ T a hg))))
theorem setCells5_other (w : World) (g o k : Nat) (a b c d e : Value) (hk : k ≠ g) : (w.setCells g o [a, b, c, d, e]).heap[k]? = w.heap[k]? := by
  simp only [World.setCells]
  rw [heap_setCell_other _ _ _ _ hk, heap_setCell_other _ _ _ _ hk, heap_setCell_other _ _ _ _ hk, heap_setCell_other _ _ _ _ hk, heap_setCell_other _ _ _ _ hk]
theorem below_setCells5 {B : Nat} {v w : World} (h : Below B v w) (g o : Nat) (a b c d e : Value) (hg : B ≤ g) : Below B v (w.setCells g o [a, b, c, d, e]) := by
  simp only [World.setCells]
  exact ((((h.setCell (p := ⟨g, o, none⟩) hg a).setCell (p := ⟨g, o + 1, none⟩) hg b).setCell (p := ⟨g, o + 1 + 1, none⟩) hg c).setCell (p := ⟨g, o + 1 + 1 + 1, none⟩) hg d).setCell (p := ⟨g, o + 1 + 1 + 1 + 1, none⟩) hg e
theorem put5_size (arr : Array Value) (o : Nat) (a b c d e : Value) : (put5 arr o a b c d e).size = arr.size := by simp [put5]
theorem put5_other (arr : Array Value) (o k : Nat) (a b c d e : Value) (h : k < o ∨ o + 5 ≤ k) : (put5 arr o a b c d e)[k]? = arr[k]? := by
  unfold put5
  rw [Array.getElem?_setIfInBounds_ne (by omega), Array.getElem?_setIfInBounds_ne (by omega), Array.getElem?_setIfInBounds_ne (by omega), Array.getElem?_setIfInBounds_ne (by omega), Array.getElem?_setIfInBounds_ne (by omega)]
theorem put5_at (arr : Array Value) (o : Nat) (a b c d e : Value) (h : o + 5 ≤ arr.size) : ∀ i, i < 5 → (put5 arr o a b c d e)[o + i]? = (#[a, b, c, d, e] : Array Value)[i]? := by
  intro i hi
  have h5 : i = 0 ∨ i = 1 ∨ i = 2 ∨ i = 3 ∨ i = 4 := by omega
  unfold put5
  rcases h5 with rfl | rfl | rfl | rfl | rfl
  · show _[o]? = _
    rw [Array.getElem?_setIfInBounds_ne (by omega), Array.getElem?_setIfInBounds_ne (by omega), Array.getElem?_setIfInBounds_ne (by omega), Array.getElem?_setIfInBounds_ne (by omega), Array.getElem?_setIfInBounds_self_of_lt (by first | omega | (simp; omega))]; rfl
  · show _[o + 1]? = _
    rw [Array.getElem?_setIfInBounds_ne (by omega), Array.getElem?_setIfInBounds_ne (by omega), Array.getElem?_setIfInBounds_ne (by omega), Array.getElem?_setIfInBounds_self_of_lt (by first | omega | (simp; omega))]; rfl
  · show _[o + 1 + 1]? = _
    rw [Array.getElem?_setIfInBounds_ne (by omega), Array.getElem?_setIfInBounds_ne (by omega), Array.getElem?_setIfInBounds_self_of_lt (by first | omega | (simp; omega))]; rfl
  · show _[o + 1 + 1 + 1]? = _
    rw [Array.getElem?_setIfInBounds_ne (by omega), Array.getElem?_setIfInBounds_self_of_lt (by first | omega | (simp; omega))]; rfl
  · show _[o + 1 + 1 + 1 + 1]? = _
    rw [Array.getElem?_setIfInBounds_self_of_lt (by first | omega | (simp; omega))]; rfl


theorem put5_take {cur : Array Value} {n : Nat} {xs zs : List Value} (hx : xs.length = n * 5) (hz : zs.length = 5) (ht : cur.toList.take ((n + 1) * 5) = xs ++ zs) (hs : (n + 1) * 5 ≤ cur.size) (a b c d e : Value) :
    (put5 cur (n * 5) a b c d e).toList.take ((n + 1) * 5) = xs ++ [a, b, c, d, e] := by
  apply List.ext_getElem?
  intro i
  by_cases hi : i < (n + 1) * 5
  · rw [List.getElem?_take, if_pos hi]
    have h0 : cur.toList[i]? = (xs ++ zs)[i]? := by rw [← ht, List.getElem?_take, if_pos hi]
    by_cases hlt : i < n * 5
    · have h1 := put5_other cur (n * 5) i a b c d e (.inl hlt)
      rw [Array.getElem?_toList, h1, ← Array.getElem?_toList, h0, List.getElem?_append_left (by omega), List.getElem?_append_left (by omega)]
    · obtain ⟨j, rfl⟩ : ∃ j, i = n * 5 + j := ⟨i - n * 5, by omega⟩
      have h1 := put5_at cur (n * 5) a b c d e (by omega) j (by omega)
      rw [Array.getElem?_toList, h1, List.getElem?_append_right (by omega), show n * 5 + j - xs.length = j by omega]
      simp
  · rw [List.getElem?_eq_none (by rw [List.length_take]; omega), List.getElem?_eq_none (by simp; omega)]
theorem OwnS.own {S : Nat → Prop} {B : Nat} {w : World} {v : Value} {ds : List Dt} (h : OwnS S B w v ds) (hS : ∀ x, S x → B ≤ x ∧ v.ownBlock ≠ some x) : OwnD B w v ds := by
  obtain ⟨xs, hown, hd⟩ := h
  refine ⟨xs, hown, fun j hj => ?_⟩
  obtain ⟨cs, h5, h1, h2⟩ := hd j hj
  exact ⟨cs, h5, h1, Dt.At.mono (fun g hg => hS g hg) _ _ h2⟩
theorem OwnS.mono {S T : Nat → Prop} {B : Nat} {w : World} {v : Value} {ds : List Dt} (h : OwnS S B w v ds) (hS : ∀ x, S x → T x) : OwnS T B w v ds := by
  obtain ⟨xs, hown, hd⟩ := h
  refine ⟨xs, hown, fun j hj => ?_⟩
  obtain ⟨cs, h5, h1, h2⟩ := hd j hj
  exact ⟨cs, h5, h1, Dt.At.mono hS _ _ h2⟩
theorem OwnS.lt {S : Nat → Prop} {B : Nat} {w : World} {v : Value} {ds : List Dt} (h : OwnS S B w v ds) {k : Nat} (hk : v.ownBlock = some k) : B ≤ k ∧ k < w.heap.size := by
  obtain ⟨xs, hown, _⟩ := h
  exact hown.lt k hk
theorem OwnS.keep {S : Nat → Prop} {B : Nat} {w w' : World} {v : Value} {ds : List Dt} (h : OwnS S B w v ds) (ho : ∀ x c, v.ownBlock = some x → w.heap[x]? = some (.cells c 40 (0, 0)) → w'.heap[x]? = some (.cells c 40 (0, 0))) (hk : Keeps S w w') : OwnS S B w' v ds := by
  obtain ⟨xs, hown, hd⟩ := h
  refine ⟨xs, ⟨hown.1, ?_⟩, fun j hj => ?_⟩
  · rcases hown.2 with h | ⟨g, cap, cur, rfl, hb, hg, r⟩
    · exact .inl h
    · exact .inr ⟨g, cap, cur, rfl, hb, ho g cur rfl hg, r⟩
  · obtain ⟨cs, h5, h1, h2⟩ := hd j hj
    exact ⟨cs, h5, h1, Dt.At.keeps hk _ _ h2⟩
theorem OwnS.below {S : Nat → Prop} {B : Nat} {w w' : World} {v : Value} {ds : List Dt} (h : OwnS S B w v ds) (hb : Below w.heap.size w w') : OwnS S B w' v ds :=
  h.keep (fun x c _ hx => by rw [hb.block x (Array.getElem?_eq_some_iff.1 hx).1]; exact hx) (Keeps.of_below hb)
/-- What put leaves. -/
def PutDone (S : Nat → Prop) (B g o : Nat) (arr : Array Value) (v : Value) (ds : List Dt) (w w' : World) : Prop :=
  ∃ v', w'.heap[g]? = some (.cells (arr.setIfInBounds o v') 55 (0, 0)) ∧ OwnS S B w' v' ds ∧ (v'.ownBlock = v.ownBlock ∨ ∃ b, v'.ownBlock = some b ∧ w.heap.size ≤ b) ∧
    w'.os = w.os ∧ w'.tape = w.tape ∧ w'.output = w.output ∧ w.heap.size ≤ w'.heap.size ∧ ∀ x, x < w.heap.size → x ≠ g → v.ownBlock ≠ some x → w'.heap[x]? = w.heap[x]?
theorem put_done {S : Nat → Prop} {B g o n : Nat} {arr : Array Value} {v : Value} {ds : List Dt} {d : Dt} {w W1 w9 W : World} {k : Int} {t : ByteArray} {mv lv : Value} {p : Int} (hB : B ≤ w.heap.size)
    (hg : w.heap[g]? = some (.cells arr 55 (0, 0))) (hS : ∀ x, S x → B ≤ x ∧ v.ownBlock ≠ some x) (hown : OwnS S B w v ds) (hn : ds.length = n) (hd : Dt.At S w d #[.int .i64 k, .string t, mv, lv, .int .i64 p]) (hb1 : Below w.heap.size w W1) (hs1 : w.heap.size + 1 ≤ W1.heap.size)
    {xs : List Value} (hxs : W1.ownsRow B 40 5 v n xs) {g' c' : Nat} (h9 : w9.ownsRow B 40 5 (.slice (some ⟨g', 0, none⟩) (n + 1) c') (n + 1) (xs ++ [.int .i64 0, .string ⟨#[]⟩, .slice none 0 0, .slice none 0 0, .int .i64 0])) (hg9 : W1.grownBy w9 v.ownBlock)
    (hv9 : (Value.slice (some ⟨g', 0, none⟩) (n + 1) c').ownBlock = v.ownBlock ∨ (Value.slice (some ⟨g', 0, none⟩) (n + 1) c').ownBlock = some W1.heap.size)
    {cur : Array Value} (hcur : w9.heap[g']? = some (.cells cur 40 (0, 0))) (i1 : W.heap[g']? = some (.cells (put5 cur (n * 5) (.int .i64 k) (.string t) mv lv (.int .i64 p)) 40 (0, 0)))
    (i2 : W.heap[g]? = some (.cells (arr.setIfInBounds o (.slice (some ⟨g', 0, none⟩) (n + 1) c')) 55 (0, 0))) (i3 : ∀ x, x ≠ g → x ≠ g' → W.heap[x]? = w9.heap[x]?) (i4 : W.os = w9.os ∧ W.tape = w9.tape ∧ W.output = w9.output ∧ W.heap.size = w9.heap.size) :
    PutDone S B g o arr v (ds ++ [d]) w W := by
  have hgl : g < w.heap.size := (Array.getElem?_eq_some_iff.1 hg).1
  have hv' : (Value.slice (some ⟨g', 0, none⟩) (n + 1) c').ownBlock = some g' := rfl
  rw [hv'] at hv9
  have hs9 := hg9.size
  have hlt : ∀ x, v.ownBlock = some x → B ≤ x ∧ x < w.heap.size := fun x hx => hown.lt hx
  -- blocks of data that were there stand
  have keep : ∀ x c T fz, x < w.heap.size → v.ownBlock ≠ some x → (T = 40 ∨ T = 3) → w.heap[x]? = some (.cells c T fz) → W.heap[x]? = some (.cells c T fz) := by
    intro x c T fz hx hxo hT hh
    have hxg : x ≠ g := by
      rintro rfl
      rw [hg] at hh
      injection hh with hh
      injection hh with _ e _
      rcases hT with rfl | rfl <;> exact absurd e (by decide)
    have hxg' : x ≠ g' := by
      rintro rfl
      rcases hv9 with e | e
      · exact hxo e.symm
      · injection e with e; omega
    rw [i3 x hxg hxg', hg9.block x (by omega) (fun e => hxo e.symm), hb1.block x hx]; exact hh
  refine ⟨.slice (some ⟨g', 0, none⟩) (n + 1) c', i2, ?_, ?_, by rw [i4.1, hg9.os, hb1.os], by rw [i4.2.1, hg9.tape, hb1.tape], by rw [i4.2.2.1, hg9.output, hb1.output], by rw [i4.2.2.2]; have := hb1.size; omega, fun x hx hxg hxo => ?_⟩
  · obtain ⟨ys, hys, hdy⟩ := hown
    rw [hn] at hys
    -- the row's cells
    have exy : xs = ys := by
      rcases hxs.2 with ⟨e, hz⟩ | ⟨g1, cap, cu, e, _, hgg, _, _, _, ht⟩
      · have h1 := hxs.1; have h2 := hys.1; rw [hz] at h1 h2; simp at h1 h2; rw [h1, h2]
      · rcases hys.2 with ⟨e2, hz⟩ | ⟨g2, cap', cu', e2, _, hgg', _, _, _, ht'⟩
        · rw [e2] at e; cases e
        · rw [e2] at e
          injection e with e1 _ _
          injection e1 with e1
          injection e1 with e1 _ _
          subst e1
          rw [hb1.block _ (Array.getElem?_eq_some_iff.1 hgg').1, hgg'] at hgg
          injection hgg with hgg
          injection hgg with hgg _ _
          rw [← ht, ← ht', hgg]
    have hlx : xs.length = n * 5 := hxs.1
    have hrow : W.ownsRow B 40 5 (.slice (some ⟨g', 0, none⟩) (n + 1) c') (n + 1) (xs ++ [.int .i64 k, .string t, mv, lv, .int .i64 p]) := by
      refine ⟨by simp [hlx]; omega, ?_⟩
      rcases h9.2 with ⟨e, _⟩ | ⟨g2, cap, cu, e, hbg, hgg, hnc, hcm, hcs, ht⟩
      · cases e
      · injection e with e1 _ e3
        injection e1 with e1
        injection e1 with e1 _ _
        subst e1 e3
        rw [hcur] at hgg
        injection hgg with hgg
        injection hgg with hgg _ _
        subst hgg
        exact .inr ⟨g', c', _, rfl, hbg, i1, hnc, hcm, by rw [put5_size]; exact hcs, put5_take hlx rfl ht (by omega) _ _ _ _ _⟩
    have up : ∀ (d : Dt) (cs : Array Value), Dt.At S w d cs → Dt.At S W d cs := by
      intro d cs h
      have h1 := Dt.At.bound _ _ h
      have h2 := Dt.At.keeps (w' := W) (fun x c T fz hx hh hT => ⟨fz, keep x c T fz hx.2 (hS x hx.1).2 hT hh⟩) _ _ h1
      exact Dt.At.mono (fun x hx => hx.1) _ _ h2
    refine ⟨xs ++ [.int .i64 k, .string t, mv, lv, .int .i64 p], by simpa [hn] using hrow, fun j hj => ?_⟩
    by_cases hjl : j < ds.length
    · obtain ⟨c, c5, c1, c2⟩ := hdy j hjl
      refine ⟨c, c5, fun i hi => by rw [List.getElem?_append_left (by omega), exy]; exact c1 i hi, ?_⟩
      rw [List.getElem_append_left hjl]; exact up _ _ c2
    · have hj' : j = ds.length := by simp at hj; omega
      subst hj'
      refine ⟨#[.int .i64 k, .string t, mv, lv, .int .i64 p], rfl, fun i hi => by rw [List.getElem?_append_right (by omega), show 5 * ds.length + i - xs.length = i by omega]; simp, ?_⟩
      rw [List.getElem_append_right (by omega)]
      simp
      exact up _ _ hd
  · rcases hv9 with e | e
    · exact .inl (hv'.trans e)
    · injection e with e; exact .inr ⟨g', hv', by omega⟩
  · rw [i3 x hxg ?_, hg9.block x (by omega) (fun e => hxo e.symm), hb1.block x hx]
    rintro rfl
    rcases hv9 with e | e
    · exact hxo e.symm
    · injection e with e; omega
end Go.Proofs.YtkjcbaikebdmmaaDoor
