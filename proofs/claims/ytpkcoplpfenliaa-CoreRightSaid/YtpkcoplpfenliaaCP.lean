/- Copy of the document. -/
import Derived.Test.YtpkcoplpfenliaaMN0
import Derived.Test.YtpkcoplpfenliaaMK4
import Derived.Test.YtpkcoplpfenliaaTM1
namespace Go.Proofs.Ytpkcoplpfenliaa
open Go.RowKit Go.BigM
set_option linter.unusedVariables false
set_option linter.unusedSimpArgs false
/-- A copy: its names and its parts lie in rows of its own, the parts behind the names. -/
def RetCopy (d : Et) (w : World) (e : Ending) (w' : World) : Prop :=
  ∃ k t ns l nv av B, d = .mk k t ns l ∧ e = .returned (.agg #[.int .i64 k, .string t, nv, av]) ∧ OwnN w.heap.size w' nv ns ∧ (∀ x, nv.ownBlock = some x → x < B) ∧ w.heap.size ≤ B ∧ OwnA B w' av l ∧ Below w.heap.size w w'
theorem RetCopy.at {d : Et} {w : World} {e : Ending} {w' : World} (h : RetCopy d w e w') : ∃ k t nv av, e = .returned (.agg #[.int .i64 k, .string t, nv, av]) ∧ Et.At (fun x => w.heap.size ≤ x) w' d #[.int .i64 k, .string t, nv, av] ∧ Below w.heap.size w w' := by
  obtain ⟨k, t, ns, l, nv, av, B, rfl, rfl, h1, _, h2, h3, h4⟩ := h
  refine ⟨k, t, nv, av, rfl, ?_, h4⟩
  rw [EAt_mk]
  exact ⟨_, _, rfl, h1.at.mono (fun x hx => hx.1), h3.at.mono (fun x hx => by have : B ≤ x := hx; omega)⟩
/-- The loop: so many parts are copied. -/
def LC (W0 : World) (ge : Nat) (k : Int) (t : ByteArray) (nv : Value) (l : List Et) (iv : Value) (wr : World) : Prop :=
  ∃ (i : Nat) (av : Value), i ≤ l.length ∧ iv = .int .i64 (i : Int) ∧ OwnA W0.heap.size wr av (l.take i) ∧ EB wr ge k t nv av ∧ But W0.heap.size ge W0 wr
theorem LC.step {W0 : World} {ge : Nat} {k : Int} {t : ByteArray} {nv : Value} {l : List Et} {wr : World} {i : Nat} {ao : Option Addr} {ac : Nat}
    (hil : i < l.length) (hln : l.length ≤ 100000) (hown : OwnA W0.heap.size wr (.slice ao i ac) (l.take i)) (heb : EB wr ge k t nv (.slice ao i ac)) (hbut : But W0.heap.size ge W0 wr) (hgeb : ge < W0.heap.size)
    {w7 : World} {cs : Array Value} (hat : Et.At (fun x => wr.heap.size ≤ x) w7 l[i] cs) (h4 : cs.size = 4) (hb7 : Below wr.heap.size wr w7) :
    But W0.heap.size ge wr w7 ∧ w7.cell? ⟨ge, 3, none⟩ = some (.slice ao i ac) ∧ But W0.heap.size ge wr (w7.alloc (.cells cs 28)) ∧ (w7.alloc (.cells cs 28)).cell? ⟨ge, 3, none⟩ = some (.slice ao i ac) ∧
      ∃ xs, (w7.alloc (.cells cs 28)).ownsRow W0.heap.size 28 4 (.slice ao i ac) i xs ∧ W0.heap.size ≤ (w7.alloc (.cells cs 28)).heap.size ∧ ∀ ao' ac' w9, w9.ownsRow W0.heap.size 28 4 (.slice ao' (i + 1) ac') (i + 1) (xs ++ cs.toList) → (w7.alloc (.cells cs 28)).grownBy w9 (Value.slice ao i ac).ownBlock →
        ((Value.slice ao' (i + 1) ac').ownBlock = (Value.slice ao i ac).ownBlock ∨ (Value.slice ao' (i + 1) ac').ownBlock = some (w7.alloc (.cells cs 28)).heap.size) →
        But W0.heap.size ge wr w9 ∧ w9.cell? ⟨ge, 3, none⟩ = some (.slice ao i ac) ∧ w9.frozen? ⟨ge, 3, none⟩ = false ∧ But W0.heap.size ge wr (w9.setCell ⟨ge, 3, none⟩ (.slice ao' (i + 1) ac')) ∧
        LC W0 ge k t nv l (.int .i64 ((i : Int) + 1)) (w9.setCell ⟨ge, 3, none⟩ (.slice ao' (i + 1) ac')) := by
  have hs0 := hbut.size
  have hlt : (l.take i).length = i := by rw [List.length_take]; omega
  have c3 := (EB.cell _ _ _ _ _ _ heb).2.2.2
  have c7 := cell_below hb7 c3
  have ha := hb7.alloc hb7.size (.cells cs 28)
  obtain ⟨xs, ho, hB, hc⟩ := all_more hown (by omega) hs0 hat hb7 h4
  rw [hlt] at ho hc
  refine ⟨But.of (hb7.mono hs0), c7, But.of (ha.mono hs0), cell_below ha c3, xs, ho, hB, fun ao' ac' w9 h9 hg9 hv9 => ?_⟩
  obtain ⟨hb9, ho9⟩ := hc _ _ h9 hg9 hv9
  have heb9 : EB w9 ge k t nv (.slice ao i ac) := by unfold EB; rw [hb9.block ge hgeb]; exact heb
  refine ⟨But.of hb9, (EB.cell _ _ _ _ _ _ heb9).2.2.2, heb9.frozen 3, (But.of hb9).setCell (p := ⟨ge, 3, none⟩) (.inr rfl) _, i + 1, _, by omega, by go_num, ?_, heb9.setA _, hbut.trans ((But.of hb9).setCell (p := ⟨ge, 3, none⟩) (.inr rfl) _)⟩
  rw [take_snoc_et l i hil]
  exact ho9.setCell (a := ⟨ge, 3, none⟩) hgeb _
theorem Below.toBut {B g : Nat} {w w' : World} (h : Below B w w') : But B g w w' := But.of h
/-- The new struct is laid: what the loop starts with. -/
theorem copy_start {W1 Y : World} {ge : Nat} {k : Int} {t : ByteArray} {nv : Value} {ns : List ByteArray} {l : List Et} (hb : Below W1.heap.size W1 Y) (hz : Y.heap[ge]? = some (.cells Z4 28 (0, 0))) (hge : W1.heap.size ≤ ge) (hn : OwnN W1.heap.size Y nv ns) :
    Below W1.heap.size W1 (Y.setRow ge #[.int .i64 k, .string t, nv, .slice none 0 0]) ∧ OwnN W1.heap.size (Y.setRow ge #[.int .i64 k, .string t, nv, .slice none 0 0]) nv ns ∧
      LC (Y.setRow ge #[.int .i64 k, .string t, nv, .slice none 0 0]) ge k t nv l (.int .i64 0) (Y.setRow ge #[.int .i64 k, .string t, nv, .slice none 0 0]) ∧ ge < (Y.setRow ge #[.int .i64 k, .string t, nv, .slice none 0 0]).heap.size ∧ (∀ x, nv.ownBlock = some x → x ≠ ge) := by
  have hlt : ge < Y.heap.size := (Array.getElem?_eq_some_iff.1 hz).1
  have hne : ∀ x, nv.ownBlock = some x → x ≠ ge := by
    intro x hx e
    subst e
    rcases hn.2 with ⟨rfl, _⟩ | ⟨g, cap, cur, rfl, hB, hg, _⟩
    · cases hx
    · have hx2 : some g = some x := hx
      injection hx2 with hx2
      subst hx2
      rw [hz] at hg
      injection hg with hg
      injection hg with _ h2 _
      exact absurd h2 (by decide)
  have he : (Y.setRow ge #[.int .i64 k, .string t, nv, .slice none 0 0]).heap[ge]? = some (.cells #[.int .i64 k, .string t, nv, .slice none 0 0] 28 (0, 0)) := setRow_heap Y _ _ _ 28 _ hz
  refine ⟨hb.trans ⟨rfl, rfl, rfl, by simp, fun x hx => setRow_other Y ge x _ (by omega)⟩, ?_, ⟨0, _, Nat.zero_le _, rfl, by rw [List.take_zero]; exact OwnA.nil _ _, he, But.refl _ _ _⟩, by simpa using hlt, hne⟩
  refine ⟨hn.1, ?_⟩
  rcases hn.2 with h1 | ⟨g, cap, cur, e1, hB, hg, r⟩
  · exact .inl h1
  · exact .inr ⟨g, cap, cur, e1, hB, by rw [setRow_other Y ge g _ (hne g (by rw [e1]; rfl))]; exact hg, r⟩
/-- The end: the copy is laid in the result's block. -/
theorem copy_end {w W1 W0 wr : World} {ge gr : Nat} {k : Int} {t : ByteArray} {nv av : Value} {ns : List ByteArray} {l : List Et} (hb1 : Below w.heap.size w W1) (hb0 : Below W1.heap.size W1 W0) (hbut : But W0.heap.size ge W0 wr) (hn : OwnN W1.heap.size W0 nv ns) (hap : ∀ x, nv.ownBlock = some x → x ≠ ge)
    (hgr : w.heap.size ≤ gr) (hgr1 : gr < W1.heap.size) (hge : W1.heap.size ≤ ge) (hown : OwnA W0.heap.size wr av l) :
    RetCopy (.mk k t ns l) w (.returned (.agg #[.int .i64 k, .string t, nv, av])) (wr.setRow gr #[.int .i64 k, .string t, nv, av]) := by
  have h0 := hb0.size
  have h1 := hb1.size
  refine ⟨k, t, ns, l, nv, av, W0.heap.size, rfl, rfl, ⟨hn.1, ?_⟩, fun x hx => (hn.lt hx).2, by omega, ?_, ?_⟩
  · rcases hn.2 with h | ⟨g, cap, cur, e1, hB, hg, r⟩
    · exact .inl h
    · refine .inr ⟨g, cap, cur, e1, by omega, ?_, r⟩
      rw [setRow_other wr gr g _ (by omega), hbut.block g (Array.getElem?_eq_some_iff.1 hg).1 (hap g (by rw [e1]; rfl))]; exact hg
  · obtain ⟨xs, ho, hd⟩ := hown
    refine ⟨xs, ⟨ho.1, ?_⟩, fun j hj => ?_⟩
    · rcases ho.2 with h | ⟨g, cap, cur, e1, hB, hg, r⟩
      · exact .inl h
      · exact .inr ⟨g, cap, cur, e1, hB, by rw [setRow_other wr gr g _ (by omega)]; exact hg, r⟩
    · obtain ⟨cs, c1, c2, c3⟩ := hd j hj
      refine ⟨cs, c1, c2, Et.At.keeps ?_ _ _ c3⟩
      intro x cs2 T fz hx hxx _
      have : W0.heap.size ≤ x := hx.1
      exact ⟨fz, by rw [setRow_other wr gr x _ (by omega)]; exact hxx⟩
  · have hb : Below w.heap.size w wr := (hb1.trans (hb0.mono h1)).trans ⟨hbut.os, hbut.tape, hbut.output, hbut.size, fun x hx => hbut.block x (by omega) (by omega)⟩
    exact hb.trans ⟨rfl, rfl, rfl, by simp, fun x hx => setRow_other wr gr x _ (by omega)⟩
end Go.Proofs.Ytpkcoplpfenliaa
