/- Rows that grow side by side; what a step keeps. -/
import Derived.Test.YtmcgocbkjdacaaaDoorNM
import Derived.Test.YtmcgocbkjdacaaaDoorZD
namespace Go.Proofs.YtmcgocbkjdacaaaDoor
open Go.RowKit Go.BigM
set_option linter.unusedVariables false
set_option linter.unusedSimpArgs false
/-- Cells' blocks of S stand as they were. -/
def KX (S : Nat → Prop) (w w' : World) : Prop := ∀ g c T fz, S g → w.heap[g]? = some (.cells c T fz) → w'.heap[g]? = some (.cells c T fz)
theorem KX.refl (S : Nat → Prop) (w : World) : KX S w w := fun _ _ _ _ _ h => h
theorem KX.trans {S : Nat → Prop} {a b c : World} (h : KX S a b) (k : KX S b c) : KX S a c := fun g cs T fz hs hg => k g cs T fz hs (h g cs T fz hs hg)
theorem KX.mono {S T : Nat → Prop} {w w' : World} (h : KX S w w') (k : ∀ g, T g → S g) : KX T w w' := fun g c T' fz hs hg => h g c T' fz (k g hs) hg
theorem KX.of_below {S : Nat → Prop} {w w' : World} (h : Below w.heap.size w w') : KX S w w' := fun g c T fz _ hg => by
  rw [h.block g (Array.getElem?_eq_some_iff.1 hg).1]; exact hg
theorem KX.of_but {S : Nat → Prop} {w w' : World} {g : Nat} (h : But w.heap.size g w w') (k : ∀ x, S x → x ≠ g) : KX S w w' := fun x c T fz hs hx => by
  rw [h.block x (Array.getElem?_eq_some_iff.1 hx).1 (k x hs)]; exact hx
theorem KX.of_grown {S : Nat → Prop} {w w' : World} {row : Option Nat} (h : w.grownBy w' row) (k : ∀ x, S x → row ≠ some x) : KX S w w' := fun x c T fz hs hx => by
  rw [h.block x (Array.getElem?_eq_some_iff.1 hx).1 (fun e => k x hs e.symm)]; exact hx
theorem KX.setRow {S : Nat → Prop} {w w' : World} (h : KX S w w') (p : Nat) (cs : Array Value) (k : ∀ x, S x → x ≠ p) : KX S w (w'.setRow p cs) := fun x c T fz hs hx => by
  rw [setRow_other w' p x cs (k x hs)]; exact h x c T fz hs hx
theorem KX.setCell {S : Nat → Prop} {w w' : World} (h : KX S w w') (p : Addr) (v : Value) (k : ∀ x, S x → x ≠ p.block) : KX S w (w'.setCell p v) := fun x c T fz hs hx => by
  rw [heap_setCell_other w' p x v (k x hs)]; exact h x c T fz hs hx
/-- A block that came later than w is none of w's. -/
theorem KX.setNew {S : Nat → Prop} {w w' : World} (h : KX S w w') (p : Nat) (cs : Array Value) (k : w.heap.size ≤ p) : KX S w (w'.setRow p cs) := fun x c T fz hs hx => by
  rw [setRow_other w' p x cs (by have := (Array.getElem?_eq_some_iff.1 hx).1; omega)]; exact h x c T fz hs hx
theorem KX.keeps {S : Nat → Prop} {w w' : World} (h : KX S w w') : Keeps S w w' := fun g c T fz hs hg _ => ⟨fz, h g c T fz hs hg⟩
theorem ownsRow_kx {S : Nat → Prop} {w w' : World} {B ty sz n : Nat} {v : Value} {xs : List Value} (h : w.ownsRow B ty sz v n xs) (k : KX S w w') (hS : ∀ x, v.ownBlock = some x → S x) : w'.ownsRow B ty sz v n xs := by
  refine ⟨h.1, ?_⟩
  rcases h.2 with h1 | ⟨g, cap, cur, rfl, hB, hg, r⟩
  · exact .inl h1
  · exact .inr ⟨g, cap, cur, rfl, hB, k g _ _ _ (hS g rfl) hg, r⟩
/-- A row of terms that the call owns, its parts in blocks of Q from B on. -/
def OwnQ (B : Nat) (Q : Nat → Prop) (w : World) (v : Value) (ds : List Et) : Prop :=
  ∃ xs, w.ownsRow B 28 4 v ds.length xs ∧ ∀ j (h : j < ds.length), ∃ cs : Array Value, cs.size = 4 ∧ (∀ i, i < 4 → xs[4 * j + i]? = cs[i]?) ∧ Et.At (fun g => B ≤ g ∧ Q g) w ds[j] cs
theorem OwnQ.nil (B : Nat) (Q : Nat → Prop) (w : World) : OwnQ B Q w (.slice none 0 0) [] := ⟨[], World.ownsRow_nil _ _ _ _, fun j h => by simp at h⟩
theorem OwnQ.kx {B : Nat} {Q : Nat → Prop} {w w' : World} {v : Value} {ds : List Et} (h : OwnQ B Q w v ds) {S : Nat → Prop} (k : KX S w w') (h1 : ∀ x, v.ownBlock = some x → S x) (h2 : ∀ x, B ≤ x → x < w.heap.size → Q x → S x) : OwnQ B Q w' v ds := by
  obtain ⟨xs, ho, hd⟩ := h
  refine ⟨xs, ownsRow_kx ho k h1, fun j hj => ?_⟩
  obtain ⟨cs, c1, c2, c3⟩ := hd j hj
  refine ⟨cs, c1, c2, ?_⟩
  have h3 := Et.At.bound _ _ c3
  exact Et.At.mono (fun g hg => hg.1) _ _ (Et.At.keeps (Keeps.trans (Keeps.refl _ _) ((k.mono (T := fun g => (B ≤ g ∧ Q g) ∧ g < w.heap.size) (fun g hg => h2 g hg.1.1 hg.2 hg.1.2)).keeps)) _ _ h3)
theorem OwnQ.mono {B : Nat} {Q Q' : Nat → Prop} {w : World} {v : Value} {ds : List Et} (h : OwnQ B Q w v ds) (k : ∀ x, B ≤ x → x < w.heap.size → Q x → Q' x) : OwnQ B Q' w v ds := by
  obtain ⟨xs, ho, hd⟩ := h
  refine ⟨xs, ho, fun j hj => ?_⟩
  obtain ⟨cs, c1, c2, c3⟩ := hd j hj
  exact ⟨cs, c1, c2, Et.At.mono (fun g hg => ⟨hg.1.1, k g hg.1.1 hg.2 hg.1.2⟩) _ _ (Et.At.bound _ _ c3)⟩
theorem OwnQ.lt {B : Nat} {Q : Nat → Prop} {w : World} {v : Value} {ds : List Et} (h : OwnQ B Q w v ds) {k : Nat} (hk : v.ownBlock = some k) : B ≤ k ∧ k < w.heap.size := by
  obtain ⟨xs, hown, _⟩ := h
  exact hown.lt k hk
theorem OwnQ.form {B : Nat} {Q : Nat → Prop} {w : World} {v : Value} {ds : List Et} (h : OwnQ B Q w v ds) : ∃ ao c, v = .slice ao ds.length c := by
  obtain ⟨xs, ho, _⟩ := h; exact own_form ho
theorem OwnQ.at {B : Nat} {Q : Nat → Prop} {w : World} {v : Value} {ds : List Et} (h : OwnQ B Q w v ds) : AAt (fun g => B ≤ g) w v ds := by
  obtain ⟨xs, hown, hd⟩ := h
  rcases hown.2 with ⟨rfl, hz⟩ | ⟨g, cap, cur, rfl, hbg, hg, hnc, hcm, hcs, htake⟩
  · exact .inl ⟨rfl, List.length_eq_zero_iff.1 hz⟩
  · refine .inr ⟨g, 0, cap, cur, (0, 0), rfl, hbg, hg, Ets.At.of_get _ _ _ fun j hj => ?_, hnc⟩
    obtain ⟨cs, h5, h1, h2⟩ := hd j hj
    refine ⟨cs, fun i hi => ?_, Et.At.mono (fun g h => h.1) _ _ h2⟩
    rw [← h1 i hi, ← htake, List.getElem?_take, if_pos (by omega)]
    simp
/-- One term more at the row's end: the world w9 behind append, w8 ahead of it. -/
theorem OwnQ.snoc {B : Nat} {Q Q' : Nat → Prop} {w8 w9 : World} {v v' : Value} {ds : List Et} {xs : List Value} {d : Et} {cs : Array Value} (hx : ∀ j (h : j < ds.length), ∃ cs : Array Value, cs.size = 4 ∧ (∀ i, i < 4 → xs[4 * j + i]? = cs[i]?) ∧ Et.At (fun g => B ≤ g ∧ Q g) w8 ds[j] cs)
    (hl : xs.length = ds.length * 4) (h4 : cs.size = 4) (hd : Et.At (fun g => B ≤ g ∧ Q g) w8 d cs)
    (hown : w9.ownsRow B 28 4 v' (ds.length + 1) (xs ++ cs.toList)) (hg : w8.grownBy w9 v.ownBlock) (hQ : ∀ x, B ≤ x → x < w8.heap.size → Q x → v.ownBlock ≠ some x ∧ Q' x) : OwnQ B Q' w9 v' (ds ++ [d]) := by
  have key : ∀ (d : Et) (cs : Array Value), Et.At (fun g => B ≤ g ∧ Q g) w8 d cs → Et.At (fun g => B ≤ g ∧ Q' g) w9 d cs := by
    intro d cs h
    have h1 := Et.At.bound d cs h
    have h2 := Et.At.keeps (KX.of_grown hg (S := fun g => (B ≤ g ∧ Q g) ∧ g < w8.heap.size) (fun g hs => (hQ g hs.1.1 hs.2 hs.1.2).1)).keeps d cs h1
    exact Et.At.mono (fun g hs => ⟨hs.1.1, (hQ g hs.1.1 hs.2 hs.1.2).2⟩) d cs h2
  refine ⟨xs ++ cs.toList, by simpa using hown, fun j hj => ?_⟩
  by_cases hlt : j < ds.length
  · obtain ⟨c, c5, c1, c2⟩ := hx j hlt
    refine ⟨c, c5, fun i hi => ?_, ?_⟩
    · rw [List.getElem?_append_left (by omega)]; exact c1 i hi
    · rw [List.getElem_append_left hlt]; exact key _ _ c2
  · have hj' : j = ds.length := by simp at hj; omega
    subst hj'
    refine ⟨cs, h4, fun i hi => ?_, ?_⟩
    · rw [List.getElem?_append_right (by omega), show 4 * ds.length + i - xs.length = i by omega]; simp
    · rw [List.getElem_append_right (by omega)]
      simp
      exact key _ _ hd
/-- Values with names: a row of the call's own. -/
def OwnV (B : Nat) (Q : Nat → Prop) (w : World) (v : Value) (ps : List (ByteArray × Et)) : Prop :=
  ∃ xs, w.ownsRow B 75 5 v ps.length xs ∧ ∀ j (h : j < ps.length), ∃ cs : Array Value, cs.size = 4 ∧ xs[5 * j]? = some (.string ps[j].1) ∧ (∀ i, i < 4 → xs[5 * j + 1 + i]? = cs[i]?) ∧ Et.At (fun g => B ≤ g ∧ Q g) w ps[j].2 cs
theorem OwnV.nil (B : Nat) (Q : Nat → Prop) (w : World) : OwnV B Q w (.slice none 0 0) [] := ⟨[], World.ownsRow_nil _ _ _ _, fun j h => by simp at h⟩
theorem OwnV.kx {B : Nat} {Q : Nat → Prop} {w w' : World} {v : Value} {ds : List (ByteArray × Et)} (h : OwnV B Q w v ds) {S : Nat → Prop} (k : KX S w w') (h1 : ∀ x, v.ownBlock = some x → S x) (h2 : ∀ x, B ≤ x → x < w.heap.size → Q x → S x) : OwnV B Q w' v ds := by
  obtain ⟨xs, ho, hd⟩ := h
  refine ⟨xs, ownsRow_kx ho k h1, fun j hj => ?_⟩
  obtain ⟨cs, c1, c0, c2, c3⟩ := hd j hj
  refine ⟨cs, c1, c0, c2, ?_⟩
  have h3 := Et.At.bound _ _ c3
  exact Et.At.mono (fun g hg => hg.1) _ _ (Et.At.keeps (((k.mono (T := fun g => (B ≤ g ∧ Q g) ∧ g < w.heap.size) (fun g hg => h2 g hg.1.1 hg.2 hg.1.2)).keeps)) _ _ h3)
theorem OwnV.mono {B : Nat} {Q Q' : Nat → Prop} {w : World} {v : Value} {ds : List (ByteArray × Et)} (h : OwnV B Q w v ds) (k : ∀ x, B ≤ x → x < w.heap.size → Q x → Q' x) : OwnV B Q' w v ds := by
  obtain ⟨xs, ho, hd⟩ := h
  refine ⟨xs, ho, fun j hj => ?_⟩
  obtain ⟨cs, c1, c0, c2, c3⟩ := hd j hj
  exact ⟨cs, c1, c0, c2, Et.At.mono (fun g hg => ⟨hg.1.1, k g hg.1.1 hg.2 hg.1.2⟩) _ _ (Et.At.bound _ _ c3)⟩
theorem OwnV.lt {B : Nat} {Q : Nat → Prop} {w : World} {v : Value} {ds : List (ByteArray × Et)} (h : OwnV B Q w v ds) {k : Nat} (hk : v.ownBlock = some k) : B ≤ k ∧ k < w.heap.size := by
  obtain ⟨xs, hown, _⟩ := h
  exact hown.lt k hk
theorem OwnV.form {B : Nat} {Q : Nat → Prop} {w : World} {v : Value} {ds : List (ByteArray × Et)} (h : OwnV B Q w v ds) : ∃ ao c, v = .slice ao ds.length c := by
  obtain ⟨xs, ho, _⟩ := h; exact own_form ho
theorem OwnV.snoc {B : Nat} {Q Q' : Nat → Prop} {w8 w9 : World} {v v' : Value} {ds : List (ByteArray × Et)} {xs : List Value} {s : ByteArray} {d : Et} {cs : Array Value}
    (hx : ∀ j (h : j < ds.length), ∃ cs : Array Value, cs.size = 4 ∧ xs[5 * j]? = some (.string ds[j].1) ∧ (∀ i, i < 4 → xs[5 * j + 1 + i]? = cs[i]?) ∧ Et.At (fun g => B ≤ g ∧ Q g) w8 ds[j].2 cs)
    (hl : xs.length = ds.length * 5) (h4 : cs.size = 4) (hd : Et.At (fun g => B ≤ g ∧ Q g) w8 d cs)
    (hown : w9.ownsRow B 75 5 v' (ds.length + 1) (xs ++ (.string s :: cs.toList))) (hg : w8.grownBy w9 v.ownBlock) (hQ : ∀ x, B ≤ x → x < w8.heap.size → Q x → v.ownBlock ≠ some x ∧ Q' x) : OwnV B Q' w9 v' (ds ++ [(s, d)]) := by
  have key : ∀ (d : Et) (cs : Array Value), Et.At (fun g => B ≤ g ∧ Q g) w8 d cs → Et.At (fun g => B ≤ g ∧ Q' g) w9 d cs := by
    intro d cs h
    have h1 := Et.At.bound d cs h
    have h2 := Et.At.keeps (KX.of_grown hg (S := fun g => (B ≤ g ∧ Q g) ∧ g < w8.heap.size) (fun g hs => (hQ g hs.1.1 hs.2 hs.1.2).1)).keeps d cs h1
    exact Et.At.mono (fun g hs => ⟨hs.1.1, (hQ g hs.1.1 hs.2 hs.1.2).2⟩) d cs h2
  refine ⟨xs ++ (.string s :: cs.toList), by simpa using hown, fun j hj => ?_⟩
  by_cases hlt : j < ds.length
  · obtain ⟨c, c5, c0, c1, c2⟩ := hx j hlt
    refine ⟨c, c5, ?_, fun i hi => ?_, ?_⟩
    · rw [List.getElem?_append_left (by omega), List.getElem_append_left hlt]; exact c0
    · rw [List.getElem?_append_left (by omega)]; exact c1 i hi
    · rw [List.getElem_append_left hlt]; exact key _ _ c2
  · have hj' : j = ds.length := by simp at hj; omega
    subst hj'
    refine ⟨cs, h4, ?_, fun i hi => ?_, ?_⟩
    · rw [List.getElem?_append_right (by omega), show 5 * ds.length - xs.length = 0 by omega, List.getElem_append_right (by omega)]; simp
    · rw [List.getElem?_append_right (by omega), show 5 * ds.length + 1 + i - xs.length = i + 1 by omega, List.getElem?_cons_succ]; simp
    · rw [List.getElem_append_right (by omega)]
      simp
      exact key _ _ hd
/-- A slice of values with names. -/
def VAt (S : Nat → Prop) (w : World) (v : Value) (ps : List (ByteArray × Et)) : Prop :=
  (v = .slice none 0 0 ∧ ps = []) ∨ ∃ g o cap arr fz, v = .slice (some ⟨g, o, none⟩) ps.length cap ∧ w.heap[g]? = some (.cells arr 75 fz) ∧ ps.length ≤ cap ∧
    ∀ j (h : j < ps.length), ∃ cs : Array Value, cs.size = 4 ∧ arr[o + 5 * j]? = some (.string ps[j].1) ∧ (∀ i, i < 4 → arr[o + 5 * j + 1 + i]? = cs[i]?) ∧ Et.At S w ps[j].2 cs
theorem OwnV.at {B : Nat} {Q : Nat → Prop} {w : World} {v : Value} {ds : List (ByteArray × Et)} (h : OwnV B Q w v ds) : VAt (fun g => B ≤ g) w v ds := by
  obtain ⟨xs, hown, hd⟩ := h
  rcases hown.2 with ⟨rfl, hz⟩ | ⟨g, cap, cur, rfl, hbg, hg, hnc, hcm, hcs, htake⟩
  · exact .inl ⟨rfl, List.length_eq_zero_iff.1 hz⟩
  · refine .inr ⟨g, 0, cap, cur, (0, 0), rfl, hg, hnc, fun j hj => ?_⟩
    obtain ⟨cs, h5, h0, h1, h2⟩ := hd j hj
    refine ⟨cs, h5, ?_, fun i hi => ?_, Et.At.mono (fun g h => h.1) _ _ h2⟩
    · rw [← h0, ← htake, List.getElem?_take, if_pos (by omega)]; simp
    · rw [← h1 i hi, ← htake, List.getElem?_take, if_pos (by omega)]; simp
end Go.Proofs.YtmcgocbkjdacaaaDoor
