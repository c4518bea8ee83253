/- A loop that appends made parts to a term in memory: what a round keeps. -/
import Derived.Test.YtcalbcllmmoldaaMK2
namespace Go.Proofs.Ytcalbcllmmoldaa
open Go.RowKit Go.BigM
set_option linter.unusedVariables false
set_option linter.unusedSimpArgs false
/-- Blocks below B stay, but for two. -/
structure But2 (B g h : Nat) (w w' : World) : Prop where
  os : w'.os = w.os
  tape : w'.tape = w.tape
  output : w'.output = w.output
  size : w.heap.size ≤ w'.heap.size
  block : ∀ k, k < B → k ≠ g → k ≠ h → w'.heap[k]? = w.heap[k]?
theorem But2.refl (B g h : Nat) (w : World) : But2 B g h w w := ⟨rfl, rfl, rfl, Nat.le_refl _, fun _ _ _ _ => rfl⟩
theorem But2.trans {B g h : Nat} {a b c : World} (k : But2 B g h a b) (k2 : But2 B g h b c) : But2 B g h a c :=
  ⟨k2.os.trans k.os, k2.tape.trans k.tape, k2.output.trans k.output, Nat.le_trans k.size k2.size, fun i hi hg hh => (k2.block i hi hg hh).trans (k.block i hi hg hh)⟩
theorem But2.of {B g h : Nat} {w w' : World} (k : But B g w w') : But2 B g h w w' := ⟨k.os, k.tape, k.output, k.size, fun i hi hg _ => k.block i hi hg⟩
theorem But2.setCell {B g h : Nat} {a w : World} (k : But2 B g h a w) {p : Addr} (hp : B ≤ p.block ∨ p.block = h) (u : Value) : But2 B g h a (w.setCell p u) := by
  refine k.trans ⟨rfl, rfl, rfl, by simp [World.setCell], fun i hi hg hh => ?_⟩
  exact Below.heap_setCell w p u i (by rintro rfl; rcases hp with hp | hp <;> omega)
theorem But2.to {B B' g h : Nat} {a w : World} (k : But2 B g h a w) (hB : B' ≤ B) (hh : B' ≤ h) : But B' g a w := ⟨k.os, k.tape, k.output, k.size, fun i hi hg => k.block i (by omega) hg (by omega)⟩
theorem But.grown {B g : Nat} {a w w' : World} {row : Option Nat} (h : But B g a w) (hg : w.grownBy w' row) (hB : B ≤ w.heap.size) (hr : ∀ k, row = some k → B ≤ k) : But B g a w' :=
  h.trans ⟨hg.os, hg.tape, hg.output, hg.size, fun k hk _ => hg.block k (by omega) (fun e => by have := hr k e.symm; omega)⟩
theorem OwnA.but {B g : Nat} {w w' : World} {v : Value} {ds : List Et} (h : OwnA B w v ds) (hb : But w.heap.size g w w') (hg : g < B) : OwnA B w' v ds := by
  obtain ⟨xs, hown, hd⟩ := h
  refine ⟨xs, ⟨hown.1, ?_⟩, fun j hj => ?_⟩
  · rcases hown.2 with h | ⟨g1, cap, cur, e1, hB, hh, r⟩
    · exact .inl h
    · exact .inr ⟨g1, cap, cur, e1, hB, by rw [hb.block _ (Array.getElem?_eq_some_iff.1 hh).1 (by omega)]; exact hh, r⟩
  · obtain ⟨cs, h5, h1, h2⟩ := hd j hj
    exact ⟨cs, h5, h1, Et.At.keeps (hb.keeps fun k hk => by have : B ≤ k := hk.1; omega) _ _ h2⟩
/-- A part more: as all_more, where the part's call turned the counter. -/
theorem app_more {l : List Et} {B g : Nat} {wr w7 : World} {v : Value} {t : Et} (hown : OwnA B wr v l) (hg : g < B) (hl : l.length ≤ 100000) (hB : B ≤ wr.heap.size)
    {cs : Array Value} (hat : Et.At (fun x => wr.heap.size ≤ x) w7 t cs) (hb : But wr.heap.size g wr w7) (h4 : cs.size = 4) :
    ∃ xs, (w7.alloc (.cells cs 28)).ownsRow B 28 4 v l.length xs ∧ B ≤ (w7.alloc (.cells cs 28)).heap.size ∧ ∀ v' w9, w9.ownsRow B 28 4 v' (l.length + 1) (xs ++ cs.toList) → (w7.alloc (.cells cs 28)).grownBy w9 v.ownBlock →
      (v'.ownBlock = v.ownBlock ∨ v'.ownBlock = some (w7.alloc (.cells cs 28)).heap.size) → But B g wr w9 ∧ OwnA B w9 v' (l ++ [t]) := by
  have hs7 := hb.size
  have hb8 : But wr.heap.size g wr (w7.alloc (.cells cs 28)) := hb.alloc hb.size _
  obtain ⟨xs, hown8, hx8⟩ := OwnA.but hown hb8 hg
  have hvl : ∀ k, v.ownBlock = some k → B ≤ k ∧ k < wr.heap.size := by
    obtain ⟨ys, ho, _⟩ := hown
    exact ho.lt
  have hz8 : (w7.alloc (.cells cs 28)).heap.size = w7.heap.size + 1 := by simp
  refine ⟨xs, hown8, by rw [hz8]; omega, fun v' w9 hown9 hg9 hv9 => ?_⟩
  refine ⟨(hb8.mono hB).grown hg9 (by rw [hz8]; omega) (fun k hk => (hvl k hk).1), ?_⟩
  have hlx : xs.length = l.length * 4 := hown8.1
  refine OwnA.snoc hx8 hlx h4 ?_ hown9 hg9 hv9
  have h1 := Et.At.bound t cs hat
  have h2 := Et.At.keeps (Keeps.of_below ((Below.refl w7.heap.size w7).alloc (Nat.le_refl _) (.cells cs 28))) t cs h1
  refine Et.At.mono (fun x hx => ⟨?_, ?_⟩) t cs h2
  · have : wr.heap.size ≤ x := hx.1; omega
  · intro e
    have := (hvl x e).2
    have : wr.heap.size ≤ x := hx.1
    omega
/-- The loop: so many parts are made. -/
def LA (W0 : World) (g ge q m0 : Nat) (pl : List Rw) (sc : List ByteArray) (kk : Int) (tt : ByteArray) (nv : Value) (iv : Value) (wr : World) : Prop :=
  ∃ (i m' : Nat) (l : List Et) (av : Value), i ≤ q ∧ iv = .int .i64 (i : Int) ∧ OwnA W0.heap.size wr av l ∧ EB wr ge kk tt nv av ∧ MadeL sc m0 m' l ∧ Mk wr g m' ∧ l.length = i ∧
    Et.sizes l ≤ i + 4 * Rw.cnts (pl.take i) ∧ m' ≤ m0 + 2 * Rw.cnts (pl.take i) ∧ But2 W0.heap.size g ge W0 wr
theorem Pre.move2 {w0 w w' : World} {g ge m m' : Nat} {sc : List ByteArray} {scv : Value} (h : Pre w0 w g m sc scv) (hb : But2 w.heap.size g ge w w') (hm : Mk w' g m') (hle : m ≤ m') (hge : ∃ c fz, w.heap[ge]? = some (.cells c 28 fz)) (hgw : w0.heap.size ≤ ge) : Pre w0 w' g m' sc scv := by
  refine ⟨h.below.trans ⟨hb.os, hb.tape, hb.output, hb.size, fun k hk => hb.block k (by have := h.below.size; omega) (by have := h.maker; omega) (by omega)⟩, h.maker, hm, ?_, h.good, Nat.le_trans h.few (by omega)⟩
  rcases h.scope with hs | ⟨x, o, cap, arr, fz, e1, e2, e3, e4⟩
  · exact .inl hs
  · refine .inr ⟨x, o, cap, arr, fz, e1, e2, ?_, e4⟩
    rw [hb.block x (Array.getElem?_eq_some_iff.1 e3).1 e2 ?_]; exact e3
    rintro rfl
    obtain ⟨c, f2, h2⟩ := hge
    rw [h2] at e3
    simp at e3
/-- What a round of the loop owes: from the part's call to the store. -/
theorem LA.step {W0 : World} {g ge q m0 : Nat} {pl : List Rw} {sc : List ByteArray} {kk : Int} {tt : ByteArray} {nv : Value} {wr : World} {i m' : Nat} {l : List Et} {ao : Option Addr} {ac : Nat}
    (hiq : i < q) (hown : OwnA W0.heap.size wr (.slice ao i ac) l) (heb : EB wr ge kk tt nv (.slice ao i ac)) (hM : MadeL sc m0 m' l) (hmk : Mk wr g m') (hl : l.length = i) (hq : q ≤ 100000)
    (hsz : Et.sizes l ≤ i + 4 * Rw.cnts (pl.take i)) (hmm : m' ≤ m0 + 2 * Rw.cnts (pl.take i)) (hbut : But2 W0.heap.size g ge W0 wr) (hgb : g < W0.heap.size) (hgeb : ge < W0.heap.size) (hne : ge ≠ g)
    {w7 : World} {t : Et} {cs : Array Value} {m'' : Nat} (hat : Et.At (fun x => wr.heap.size ≤ x) w7 t cs) (h4 : cs.size = 4) (hMt : Made sc m' m'' t) (htz : t.size ≤ 1 + 4 * pcn pl i) (hm'' : m'' ≤ m' + 2 * pcn pl i) (hmk7 : Mk w7 g m'') (hb7 : But wr.heap.size g wr w7) :
    But2 W0.heap.size g ge wr w7 ∧ w7.cell? ⟨ge, 3, none⟩ = some (.slice ao i ac) ∧ But2 W0.heap.size g ge wr (w7.alloc (.cells cs 28)) ∧ (w7.alloc (.cells cs 28)).cell? ⟨ge, 3, none⟩ = some (.slice ao i ac) ∧
      ∃ xs, (w7.alloc (.cells cs 28)).ownsRow W0.heap.size 28 4 (.slice ao i ac) i xs ∧ W0.heap.size ≤ (w7.alloc (.cells cs 28)).heap.size ∧ ∀ ao' ac' w9, w9.ownsRow W0.heap.size 28 4 (.slice ao' (i + 1) ac') (i + 1) (xs ++ cs.toList) → (w7.alloc (.cells cs 28)).grownBy w9 (Value.slice ao i ac).ownBlock →
        ((Value.slice ao' (i + 1) ac').ownBlock = (Value.slice ao i ac).ownBlock ∨ (Value.slice ao' (i + 1) ac').ownBlock = some (w7.alloc (.cells cs 28)).heap.size) →
        But2 W0.heap.size g ge wr w9 ∧ w9.cell? ⟨ge, 3, none⟩ = some (.slice ao i ac) ∧ w9.frozen? ⟨ge, 3, none⟩ = false ∧ But2 W0.heap.size g ge wr (w9.setCell ⟨ge, 3, none⟩ (.slice ao' (i + 1) ac')) ∧
        LA W0 g ge q m0 pl sc kk tt nv (.int .i64 ((i : Int) + 1)) (w9.setCell ⟨ge, 3, none⟩ (.slice ao' (i + 1) ac')) := by
  have hs0 := hbut.size
  have c3 := (EB.cell _ _ _ _ _ _ heb).2.2.2
  have hgw : ge < wr.heap.size := by omega
  have c7 : w7.cell? ⟨ge, 3, none⟩ = some (.slice ao i ac) := (hb7.cell (p := ⟨ge, 3, none⟩) hgw hne).trans c3
  obtain ⟨xs, ho, hB, hc⟩ := app_more hown hgb (by omega) hs0 hat hb7 h4
  rw [hl] at ho hc
  refine ⟨But2.of (hb7.mono hs0), c7, But2.of ((hb7.alloc hb7.size _).mono hs0), cell_below ((Below.refl _ _).alloc (Nat.le_refl _) _) c7, xs, ho, hB, fun ao' ac' w9 h9 hg9 hv9 => ?_⟩
  obtain ⟨hb9, ho9⟩ := hc _ _ h9 hg9 hv9
  have heb9 : EB w9 ge kk tt nv (.slice ao i ac) := by unfold EB; rw [hb9.block ge hgeb hne]; exact heb
  have hmk9 : Mk w9 g m'' := by
    have h8 : Mk (w7.alloc (.cells cs 28)) g m'' := hmk7.below ((Below.refl _ _).alloc (Nat.le_refl _) _)
    unfold Mk at h8 ⊢
    rw [hg9.block g (by have := Array.getElem?_eq_some_iff.1 h8; exact this.1) ?_]; exact h8
    intro e
    have := (ho.lt g e.symm).1
    omega
  have htk := pcn_take pl i
  refine ⟨But2.of hb9, (EB.cell _ _ _ _ _ _ heb9).2.2.2, heb9.frozen 3, (But2.of hb9).setCell (p := ⟨ge, 3, none⟩) (.inr rfl) _, ⟨i + 1, m'', l ++ [t], _, by omega, by go_num, ho9.setCell (a := ⟨ge, 3, none⟩) hgeb _, heb9.setA _, hM.snoc hMt, ?_, by rw [List.length_append, hl]; rfl, ?_, by omega, hbut.trans ((But2.of hb9).setCell (p := ⟨ge, 3, none⟩) (.inr rfl) _)⟩⟩
  · unfold Mk; rw [heap_setCell_other w9 ⟨ge, 3, none⟩ g _ (by show g ≠ ge; omega)]; exact hmk9
  · rw [esizes_append]; simp only [Et.sizes]; omega
end Go.Proofs.Ytcalbcllmmoldaa
