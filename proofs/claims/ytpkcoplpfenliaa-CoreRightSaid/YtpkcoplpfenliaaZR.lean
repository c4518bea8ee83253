/- What spoilt hands back; its beginning and its end. -/
import Derived.Test.YtpkcoplpfenliaaCQ
import Derived.Test.YtpkcoplpfenliaaTM4
import Derived.Test.YtpkcoplpfenliaaK2
import Derived.Test.YtpkcoplpfenliaaR4
import Derived.Test.YtpkcoplpfenliaaA3
namespace Go.Proofs.Ytpkcoplpfenliaa
open Go.RowKit Go.BigM
set_option linter.unusedVariables false
set_option linter.unusedSimpArgs false
/-- Some term, one larger at most, fine, in new memory. -/
def RetSp (s : Nat) (w : World) (e : Ending) (w' : World) : Prop :=
  ∃ cs t, e = .returned (.agg cs) ∧ Et.At (fun x => w.heap.size ≤ x) w' t cs ∧ t.size ≤ s + 1 ∧ t.fine ∧ Below w.heap.size w w'
/-- What may be spoilt: fine, of few names, not too large. -/
structure SpF (d : Et) : Prop where
  fine : d.fine
  size : d.size ≤ 400
  bnd : d.bnd.length ≤ 99
theorem SpF.names {k : Int} {t : ByteArray} {ns : List ByteArray} {l : List Et} (h : SpF (.mk k t ns l)) : ns.length ≤ 99 := by
  have := h.bnd
  unfold Et.bnd at this
  rw [List.length_append] at this; omega
theorem bnds_get : ∀ (l : List Et) (j : Nat) (h : j < l.length), l[j].bnd.length ≤ (Et.bnds l).length
  | [], j, h => by simp at h
  | d :: l, 0, _ => by simp [Et.bnds]
  | d :: l, j + 1, h => by
    have := bnds_get l j (by simpa using h)
    simp only [Et.bnds, List.getElem_cons_succ, List.length_append]; omega
theorem SpF.part {k : Int} {t : ByteArray} {ns : List ByteArray} {l : List Et} (h : SpF (.mk k t ns l)) (j : Nat) (hj : j < l.length) : SpF l[j] := by
  have h1 := h.fine
  rw [fine_mk] at h1
  have h2 := h.size
  have h3 := h.bnd
  unfold Et.bnd at h3
  rw [List.length_append] at h3
  simp only [Et.size] at h2
  exact ⟨h1.2.2.2 _ (List.getElem_mem hj), by have := esize_get l j hj; omega, by have := bnds_get l j hj; omega⟩
/-- Behind the copy: the copy's struct lies at go, its names and its parts in rows of their own. -/
structure SpW (w W : World) (gr go B : Nat) (k : Int) (t : ByteArray) (ns : List ByteArray) (l : List Et) (nv av : Value) : Prop where
  hgr : gr = w.heap.size + 1
  hgo : w.heap.size + 2 ≤ go
  lt : go < W.heap.size
  below : Below w.heap.size w W
  res : W.heap[gr]? = some (.cells Z4 28 (0, 0))
  out : EB W go k t nv av
  nms : OwnN (w.heap.size + 2) W nv ns
  nmsB : ∀ x, nv.ownBlock = some x → x < B ∧ x ≠ go
  hB : w.heap.size + 2 ≤ B
  hBW : B ≤ W.heap.size
  own : ∃ xs, W.ownsRow B 28 4 av l.length xs ∧ ∀ j (h : j < l.length), ∃ cs : Array Value, cs.size = 4 ∧ (∀ i, i < 4 → xs[4 * j + i]? = cs[i]?) ∧ Et.At (fun g => B ≤ g ∧ av.ownBlock ≠ some g ∧ g ≠ go) W l[j] cs
  pts : AAt (fun x => B ≤ x ∧ x ≠ go) W av l
theorem OwnA.atB {B : Nat} {w : World} {v : Value} {ds : List Et} (h : OwnA B w v ds) : AAt (fun g => B ≤ g ∧ g < w.heap.size) w v ds := by
  have h1 := h.at
  rcases h1 with h | ⟨g, o, cap, arr, fz, h1, h2, h3, h4⟩
  · exact .inl h
  · exact .inr ⟨g, o, cap, arr, fz, h1, ⟨h2, (Array.getElem?_eq_some_iff.1 h3).1⟩, h3, Ets.At.bound ds _ _ h4⟩

theorem sp_open {k : Int} {t : ByteArray} {ns : List ByteArray} {l : List Et} {w W1 w5 : World} {e : Ending} (h : RetCopy (.mk k t ns l) W1 e w5) (hb : Below w.heap.size w W1) (hs : W1.heap.size = w.heap.size + 2) (hz : W1.heap[w.heap.size + 1]? = some (.cells Z4 28 (0, 0))) :
    ∃ no nc ao ac B, e = .returned (.agg #[.int .i64 k, .string t, .slice no ns.length nc, .slice ao l.length ac]) ∧ (#[.int .i64 k, .string t, .slice no ns.length nc, .slice ao l.length ac] : Array Value).all (·.oneCell') = true ∧
      SpW w (w5.alloc (.cells #[.int .i64 k, .string t, .slice no ns.length nc, .slice ao l.length ac] 28)) (w.heap.size + 1) w5.heap.size B k t ns l (.slice no ns.length nc) (.slice ao l.length ac) := by
  obtain ⟨k', t', ns', l', nv, av, B, hd, rfl, hN, hNB, hB1, hA, hb5⟩ := h
  injection hd with h1 h2 h3 h4
  subst h1 h2 h3 h4
  obtain ⟨no, nc, rfl⟩ := own_form hN
  obtain ⟨ao, ac, rfl⟩ : ∃ ao ac, av = .slice ao l.length ac := by
    obtain ⟨xs, ho, _⟩ := hA
    exact own_form ho
  have h5 := hb5.size
  have hal := (Below.refl w5.heap.size w5).alloc (Nat.le_refl _) (.cells #[.int .i64 k, .string t, .slice no ns.length nc, .slice ao l.length ac] 28)
  have hA' : OwnA (min B w5.heap.size) w5 (.slice ao l.length ac) l := hA.mono (Nat.min_le_left _ _)
  refine ⟨no, nc, ao, ac, min B w5.heap.size, rfl, by simp [Value.oneCell'], rfl, by omega, by simp, ((hb.trans (hb5.mono (by omega))).trans (hal.mono (by omega))), ?_, alloc_at _ _, ?_, ?_, by omega, by simp; omega, ?_, ?_⟩
  · exact row_below hal (row_below hb5 hz)
  · rw [← hs]; exact hN.below hal
  · intro x hx
    have h1 := hNB x hx
    have h2 := (hN.lt hx).2
    exact ⟨by omega, by omega⟩
  · obtain ⟨xs, ho, hd⟩ := hA'
    refine ⟨xs, World.ownsRow.kept ho (grownRow_of hal none) (by cases (Value.slice ao l.length ac).ownBlock <;> simp), fun j hj => ?_⟩
    obtain ⟨cs, h1, h2, h3⟩ := hd j hj
    exact ⟨cs, h1, h2, Et.At.mono (fun x hx => ⟨hx.1.1, hx.1.2, by have := hx.2; omega⟩) _ _ (Et.At.keeps (Keeps.of_below hal) _ _ (Et.At.bound _ _ h3))⟩
  · have h1 := hA'.atB
    exact AAt.mono (h1.keeps (Keeps.of_below hal)) (fun x hx => ⟨hx.1, by have := hx.2; omega⟩)
theorem sp_end {k : Int} {t : ByteArray} {ns : List ByteArray} {l : List Et} {nv av : Value} {w wr : World} {gr s : Nat} (hgr : gr = w.heap.size + 1) (hb : Below w.heap.size w wr) (hn : NAt (fun x => w.heap.size + 2 ≤ x) wr nv ns) (ha : AAt (fun x => w.heap.size + 2 ≤ x) wr av l)
    (hs : (Et.mk k t ns l).size ≤ s + 1) (hf : (Et.mk k t ns l).fine) :
    (#[.int .i64 k, .string t, nv, av] : Array Value).all (·.oneCell') = true ∧ RetSp s w (.returned (.agg #[.int .i64 k, .string t, nv, av])) (wr.setRow gr #[.int .i64 k, .string t, nv, av]) := by
  have o1 := hn.one
  have o2 := ha.one
  refine ⟨by simp [Value.oneCell'] at o1 o2 ⊢; exact ⟨o1, o2⟩, _, _, rfl, ?_, hs, hf, Below.setRowUp hb _ _ (by omega)⟩
  have hat : Et.At (fun x => w.heap.size + 2 ≤ x) wr (.mk k t ns l) #[.int .i64 k, .string t, nv, av] := by rw [EAt_mk]; exact ⟨_, _, rfl, hn, ha⟩
  refine Et.At.mono (fun x hx => by have : w.heap.size + 2 ≤ x := hx; omega) _ _ (Et.At.keeps ?_ _ _ hat)
  intro x cs2 T fz hx2 hxx _
  have : w.heap.size + 2 ≤ x := hx2
  exact ⟨fz, by rw [setRow_other wr _ x _ (by omega)]; exact hxx⟩
theorem EB.setK {w : World} {g : Nat} {k : Int} {t : ByteArray} {nv av : Value} (h : EB w g k t nv av) (v : Int) : EB (w.setCell ⟨g, 0, none⟩ (.int .i64 v)) g v t nv av := by
  have := heap_setCell_same w g 0 _ 28 (.int .i64 v) h
  unfold EB; rw [this]; rfl
theorem EB.setT {w : World} {g : Nat} {k : Int} {t : ByteArray} {nv av : Value} (h : EB w g k t nv av) (v : ByteArray) : EB (w.setCell ⟨g, 1, none⟩ (.string v)) g k v nv av := by
  have := heap_setCell_same w g 1 _ 28 (.string v) h
  unfold EB; rw [this]; rfl
theorem Keeps.setCell {S : Nat → Prop} (w : World) (a : Addr) (u : Value) (h : ∀ x, S x → x ≠ a.block) : Keeps S w (w.setCell a u) := by
  intro g c T fz hs hg _
  exact ⟨fz, by rw [heap_setCell_other w a g u (h g hs)]; exact hg⟩
theorem SpW.ends {w W : World} {gr go B s : Nat} {k k' : Int} {t t' : ByteArray} {ns ns' : List ByteArray} {l l' : List Et} {nv av nv' av' : Value} {WR : World} (h : SpW w W gr go B k t ns l nv av) (hb : Below w.heap.size w WR) (hz : WR.heap[gr]? = some (.cells Z4 28 (0, 0))) (he : EB WR go k' t' nv' av')
    (hn : NAt (fun x => w.heap.size + 2 ≤ x) WR nv' ns') (ha : AAt (fun x => w.heap.size + 2 ≤ x) WR av' l') (hs : (Et.mk k' t' ns' l').size ≤ s + 1) (hf : (Et.mk k' t' ns' l').fine) :
    Hid (EB WR go k' t' nv' av') ∧ Hid (WR.heap[gr]? = some (.cells Z4 28 (0, 0))) ∧ (#[.int .i64 k', .string t', nv', av'] : Array Value).all (·.oneCell') = true ∧ Hid (RetSp s w (.returned (.agg #[.int .i64 k', .string t', nv', av'])) (WR.setRow gr #[.int .i64 k', .string t', nv', av'])) := by
  obtain ⟨h1, h2⟩ := sp_end (k := k') (t := t') h.hgr hb hn ha hs hf
  exact ⟨he, hz, h1, h2⟩
theorem SpW.below_set {w W : World} {gr go B : Nat} {k : Int} {t : ByteArray} {ns : List ByteArray} {l : List Et} {nv av : Value} (h : SpW w W gr go B k t ns l nv av) (a : Addr) (ha : w.heap.size + 2 ≤ a.block) (u : Value) :
    Below w.heap.size w (W.setCell a u) ∧ (W.setCell a u).heap[gr]? = some (.cells Z4 28 (0, 0)) := by
  refine ⟨h.below.setCell (by omega) _, ?_⟩
  rw [heap_setCell_other W a gr u (by have := h.hgr; omega)]; exact h.res
theorem SpW.nmsAt {w W : World} {gr go B : Nat} {k : Int} {t : ByteArray} {ns : List ByteArray} {l : List Et} {nv av : Value} (h : SpW w W gr go B k t ns l nv av) : NAt (fun x => w.heap.size + 2 ≤ x ∧ x ≠ go ∧ x < B) W nv ns :=
  h.nms.at.mono fun x hx => ⟨hx.1, (h.nmsB x hx.2).2, (h.nmsB x hx.2).1⟩
/-- One thing of the copy's own struct is turned. -/
theorem SpW.setK {w W : World} {gr go B s : Nat} {k : Int} {t : ByteArray} {ns : List ByteArray} {l : List Et} {nv av : Value} (h : SpW w W gr go B k t ns l nv av) (v : Int) (hs : 1 + Et.sizes l ≤ s) (hf : (Et.mk k t ns l).fine) :
    Hid (EB (W.setCell ⟨go, 0, none⟩ (.int .i64 v)) go v t nv av) ∧ Hid ((W.setCell ⟨go, 0, none⟩ (.int .i64 v)).heap[gr]? = some (.cells Z4 28 (0, 0))) ∧ (#[.int .i64 v, .string t, nv, av] : Array Value).all (·.oneCell') = true ∧ Hid (RetSp s w (.returned (.agg #[.int .i64 v, .string t, nv, av])) ((W.setCell ⟨go, 0, none⟩ (.int .i64 v)).setRow gr #[.int .i64 v, .string t, nv, av])) := by
  obtain ⟨h1, h2⟩ := h.below_set ⟨go, 0, none⟩ h.hgo (.int .i64 v)
  refine h.ends h1 h2 (EB.setK h.out v) ((h.nmsAt.keeps (Keeps.setCell _ _ _ fun x hx => hx.2.1)).mono fun x hx => hx.1) ((h.pts.keeps (Keeps.setCell _ _ _ fun x hx => hx.2)).mono fun x hx => by have := h.hB; have := hx.1; omega) (by simp only [Et.size]; omega) (by rw [fine_mk] at hf ⊢; exact hf)
theorem SpW.setT {w W : World} {gr go B s : Nat} {k : Int} {t : ByteArray} {ns : List ByteArray} {l : List Et} {nv av : Value} (h : SpW w W gr go B k t ns l nv av) (v : ByteArray) (hv : v.size ≤ 100) (hs : 1 + Et.sizes l ≤ s) (hf : (Et.mk k t ns l).fine) :
    Hid (EB (W.setCell ⟨go, 1, none⟩ (.string v)) go k v nv av) ∧ Hid ((W.setCell ⟨go, 1, none⟩ (.string v)).heap[gr]? = some (.cells Z4 28 (0, 0))) ∧ (#[.int .i64 k, .string v, nv, av] : Array Value).all (·.oneCell') = true ∧ Hid (RetSp s w (.returned (.agg #[.int .i64 k, .string v, nv, av])) ((W.setCell ⟨go, 1, none⟩ (.string v)).setRow gr #[.int .i64 k, .string v, nv, av])) := by
  obtain ⟨h1, h2⟩ := h.below_set ⟨go, 1, none⟩ h.hgo (.string v)
  refine h.ends h1 h2 (EB.setT h.out v) ((h.nmsAt.keeps (Keeps.setCell _ _ _ fun x hx => hx.2.1)).mono fun x hx => hx.1) ((h.pts.keeps (Keeps.setCell _ _ _ fun x hx => hx.2)).mono fun x hx => by have := h.hB; have := hx.1; omega) (by simp only [Et.size]; omega) (by rw [fine_mk] at hf ⊢; exact ⟨hv, hf.2⟩)
/-- Nothing is turned. -/
theorem SpW.same {w W : World} {gr go B s : Nat} {k : Int} {t : ByteArray} {ns : List ByteArray} {l : List Et} {nv av : Value} (h : SpW w W gr go B k t ns l nv av) (hs : 1 + Et.sizes l ≤ s) (hf : (Et.mk k t ns l).fine) :
    Hid (EB W go k t nv av) ∧ Hid (W.heap[gr]? = some (.cells Z4 28 (0, 0))) ∧ (#[.int .i64 k, .string t, nv, av] : Array Value).all (·.oneCell') = true ∧ Hid (RetSp s w (.returned (.agg #[.int .i64 k, .string t, nv, av])) (W.setRow gr #[.int .i64 k, .string t, nv, av])) :=
  h.ends h.below h.res h.out (h.nmsAt.mono fun x hx => hx.1) (h.pts.mono fun x hx => by have := h.hB; have := hx.1; omega) (by simp only [Et.size]; omega) hf
theorem OwnN.ne_of {B : Nat} {w : World} {v : Value} {ns : List ByteArray} (hn : OwnN B w v ns) {ge : Nat} {c : Array Value} {fz : Nat × Nat} (hz : w.heap[ge]? = some (.cells c 28 fz)) : ∀ x, v.ownBlock = some x → x ≠ ge := by
  intro x hx e
  subst e
  rcases hn.2 with ⟨rfl, _⟩ | ⟨g, cap, cur, rfl, hB, hg, _⟩
  · cases hx
  · have hx2 : some g = some x := hx
    injection hx2 with hx2
    subst hx2
    rw [hz] at hg
    injection hg with hg
    injection hg with _ h2 _
    exact absurd h2 (by decide)
/-- A new block beside it. -/
theorem SpW.alloc {w W : World} {gr go B : Nat} {k : Int} {t : ByteArray} {ns : List ByteArray} {l : List Et} {nv av : Value} (h : SpW w W gr go B k t ns l nv av) (o : Obj) : SpW w (W.alloc o) gr go B k t ns l nv av := by
  have hb := (Below.refl W.heap.size W).alloc (Nat.le_refl _) o
  have hlt := h.lt
  refine ⟨h.hgr, h.hgo, by simp; omega, h.below.trans (hb.mono (by have := h.below.size; omega)), row_below hb h.res, row_below hb h.out, h.nms.below hb, h.nmsB, h.hB, by have := h.hBW; simp; omega, ?_, h.pts.keeps (Keeps.of_below hb)⟩
  obtain ⟨xs, ho, hd⟩ := h.own
  refine ⟨xs, World.ownsRow.kept ho (grownRow_of hb none) (by cases av.ownBlock <;> simp), fun j hj => ?_⟩
  obtain ⟨cs, h1, h2, h3⟩ := hd j hj
  exact ⟨cs, h1, h2, Et.At.keeps (Keeps.of_below hb) _ _ h3⟩
/-- A name more. -/
theorem SpW.appN {w W : World} {gr go B s : Nat} {k : Int} {t : ByteArray} {ns : List ByteArray} {l : List Et} {no : Option Addr} {nc : Nat} {av : Value} (h : SpW w W gr go B k t ns l (.slice no ns.length nc) av) (d : ByteArray) (hd : d.size ≤ 100) (hn99 : ns.length ≤ 99) (hs : 1 + Et.sizes l ≤ s) (hf : (Et.mk k t ns l).fine) :
    OwnN (w.heap.size + 2) (W.alloc (.cells #[.string d] 9)) (.slice no ns.length nc) ns ∧ (W.alloc (.cells #[.string d] 9)).cell? ⟨W.heap.size, 0, none⟩ = some (.string d) ∧ w.heap.size + 2 ≤ (W.alloc (.cells #[.string d] 9)).heap.size ∧
    ∀ ao' ac' w9, OwnN (w.heap.size + 2) w9 (.slice ao' (ns.length + 1) ac') (ns ++ [d]) → (W.alloc (.cells #[.string d] 9)).grownBy w9 (Value.slice no ns.length nc).ownBlock →
      w9.cell? ⟨go, 2, none⟩ = some (.slice no ns.length nc) ∧ w9.frozen? ⟨go, 2, none⟩ = false ∧
      Hid (EB (w9.setCell ⟨go, 2, none⟩ (.slice ao' (ns.length + 1) ac')) go k t (.slice ao' (ns.length + 1) ac') av) ∧ Hid ((w9.setCell ⟨go, 2, none⟩ (.slice ao' (ns.length + 1) ac')).heap[gr]? = some (.cells Z4 28 (0, 0))) ∧ (#[.int .i64 k, .string t, .slice ao' (ns.length + 1) ac', av] : Array Value).all (·.oneCell') = true ∧
      Hid (RetSp s w (.returned (.agg #[.int .i64 k, .string t, .slice ao' (ns.length + 1) ac', av])) ((w9.setCell ⟨go, 2, none⟩ (.slice ao' (ns.length + 1) ac')).setRow gr #[.int .i64 k, .string t, .slice ao' (ns.length + 1) ac', av])) := by
  have h2 := h.alloc (.cells #[.string d] 9)
  have hsz : (W.alloc (.cells #[.string d] 9)).heap.size = W.heap.size + 1 := by simp
  have hlt := h.lt
  have hgo := h.hgo
  have hgr := h.hgr
  have hB := h.hB
  refine ⟨h2.nms, by rw [Lib.cell_of_heap (alloc_at W _)]; rfl, by omega, fun ao' ac' w9 hown hg => ?_⟩
  generalize W.alloc (.cells #[.string d] 9) = W2 at h2 hsz hg
  have hne := h.nmsB
  have hgo9 : w9.heap[go]? = some (.cells #[.int .i64 k, .string t, .slice no ns.length nc, av] 28 (0, 0)) := by rw [hg.block go (by omega) (fun e => (hne go e.symm).2 rfl)]; exact h2.out
  have hb9 : Below w.heap.size w w9 := h2.below.grown hg (by omega) (fun x hx => by have := (h.nms.lt hx).1; omega)
  have hgr9 : w9.heap[gr]? = some (.cells Z4 28 (0, 0)) := by rw [hg.block gr (by omega) (fun e => by have := (h.nms.lt e.symm).1; omega)]; exact h2.res
  have hEB : EB w9 go k t (.slice no ns.length nc) av := hgo9
  obtain ⟨c0, c1, c2, c3⟩ := EB.cell _ _ _ _ _ _ hEB
  refine ⟨c2, hEB.frozen 2, ?_⟩
  refine h.ends (hb9.setCell (p := ⟨go, 2, none⟩) (by show w.heap.size ≤ go; omega) _) ?_ (hEB.setN _) (ns' := ns ++ [d]) (l' := l) ?_ ?_ (by simp only [Et.size]; omega) ?_
  · rw [heap_setCell_other w9 ⟨go, 2, none⟩ gr _ (by show gr ≠ go; omega)]; exact hgr9
  · have h5 := hown.at
    have h6 := hown.ne_of hgo9
    exact (h5.keeps (Keeps.setCell _ _ _ fun x hx => h6 x hx.2)).mono fun x hx => hx.1
  · refine (((h2.pts.keeps (Keeps.of_grown hg fun x hx e => ?_)).keeps (Keeps.setCell _ _ _ fun x hx => hx.2)).mono fun x hx => by have := hx.1; omega)
    have := (hne x e.symm).1
    have := hx.1
    omega
  · rw [fine_mk] at hf ⊢
    refine ⟨hf.1, by rw [List.length_append]; simp; omega, fun x hx => ?_, hf.2.2.2⟩
    rcases List.mem_append.1 hx with hx | hx
    · exact hf.2.2.1 x hx
    · simp at hx; subst hx; exact hd
/-- A part more. -/
theorem SpW.appA {w W : World} {gr go B s : Nat} {k : Int} {t : ByteArray} {ns : List ByteArray} {l : List Et} {ao : Option Addr} {ac : Nat} {nv : Value} (h : SpW w W gr go B k t ns l nv (.slice ao l.length ac)) (hl5 : l.length ≤ 1000) (hs : 1 + Et.sizes l ≤ s) (hf : (Et.mk k t ns l).fine) :
    ∃ xs, (W.alloc (.cells nilC 28)).ownsRow B 28 4 (.slice ao l.length ac) l.length xs ∧ B ≤ (W.alloc (.cells nilC 28)).heap.size ∧
    ∀ ao' ac' w9, w9.ownsRow B 28 4 (.slice ao' (l.length + 1) ac') (l.length + 1) (xs ++ nilC.toList) → (W.alloc (.cells nilC 28)).grownBy w9 (Value.slice ao l.length ac).ownBlock →
      ((Value.slice ao' (l.length + 1) ac').ownBlock = (Value.slice ao l.length ac).ownBlock ∨ (Value.slice ao' (l.length + 1) ac').ownBlock = some (W.alloc (.cells nilC 28)).heap.size) →
      w9.cell? ⟨go, 3, none⟩ = some (.slice ao l.length ac) ∧ w9.frozen? ⟨go, 3, none⟩ = false ∧
      Hid (EB (w9.setCell ⟨go, 3, none⟩ (.slice ao' (l.length + 1) ac')) go k t nv (.slice ao' (l.length + 1) ac')) ∧ Hid ((w9.setCell ⟨go, 3, none⟩ (.slice ao' (l.length + 1) ac')).heap[gr]? = some (.cells Z4 28 (0, 0))) ∧ (#[.int .i64 k, .string t, nv, .slice ao' (l.length + 1) ac'] : Array Value).all (·.oneCell') = true ∧
      Hid (RetSp s w (.returned (.agg #[.int .i64 k, .string t, nv, .slice ao' (l.length + 1) ac'])) ((w9.setCell ⟨go, 3, none⟩ (.slice ao' (l.length + 1) ac')).setRow gr #[.int .i64 k, .string t, nv, .slice ao' (l.length + 1) ac'])) := by
  have hsz : (W.alloc (.cells nilC 28)).heap.size = W.heap.size + 1 := by simp
  have hlt := h.lt
  have hgo := h.hgo
  have hgr := h.hgr
  have hB := h.hB
  have hBW := h.hBW
  have h2 := h.alloc (.cells nilC 28)
  obtain ⟨xs, ho, hd⟩ := h2.own
  refine ⟨xs, ho, h2.hBW, fun ao' ac' w9 hown hg hv => ?_⟩
  generalize W.alloc (.cells nilC 28) = W2 at h2 hsz hg hv hd ho
  have hne : ∀ x, (Value.slice ao l.length ac).ownBlock = some x → x ≠ go ∧ B ≤ x := by
    intro x hx
    rcases h.pts with ⟨e, _⟩ | ⟨g, o, cap, arr, fz, e, hS, hg, _⟩
    · rw [e] at hx; cases hx
    · rw [e] at hx
      have hx2 : some g = some x := hx
      injection hx2 with hx2
      subst hx2
      exact ⟨hS.2, hS.1⟩
  have hgo9 : w9.heap[go]? = some (.cells #[.int .i64 k, .string t, nv, .slice ao l.length ac] 28 (0, 0)) := by rw [hg.block go (by omega) (fun e => (hne go e.symm).1 rfl)]; exact h2.out
  have hb9 : Below w.heap.size w w9 := h2.below.grown hg (by omega) (fun x hx => by have := (hne x hx).2; omega)
  have hgr9 : w9.heap[gr]? = some (.cells Z4 28 (0, 0)) := by rw [hg.block gr (by omega) (fun e => by have := (hne gr e.symm).2; omega)]; exact h2.res
  have hEB : EB w9 go k t nv (.slice ao l.length ac) := hgo9
  obtain ⟨c0, c1, c2, c3⟩ := EB.cell _ _ _ _ _ _ hEB
  refine ⟨c3, hEB.frozen 3, ?_⟩
  refine h.ends (hb9.setCell (p := ⟨go, 3, none⟩) (by show w.heap.size ≤ go; omega) _) ?_ (hEB.setA _) (ns' := ns) (l' := l ++ [eN]) ?_ ?_ (by simp only [Et.size, esizes_append, Et.sizes]; omega) ?_
  · rw [heap_setCell_other w9 ⟨go, 3, none⟩ gr _ (by show gr ≠ go; omega)]; exact hgr9
  · exact (((h2.nmsAt.keeps (Keeps.of_grown hg fun x hx e => by have := (hne x e.symm).2; have := hx.2.2; omega)).keeps (Keeps.setCell _ _ _ fun x hx => hx.2.1)).mono fun x hx => hx.1)
  · rcases hown.2 with ⟨_, e0⟩ | ⟨g, cap, cur, e1, hBg, hgh, hnc, hcm, hcs, htake⟩
    · omega
    · have hgne : g ≠ go := by
        have e2 : (Value.slice ao' (l.length + 1) ac').ownBlock = some g := by rw [e1]; rfl
        rcases hv with hv | hv
        · exact (hne g (by rw [← hv]; exact e2)).1
        · rw [e2] at hv; injection hv with hv; omega
      refine .inr ⟨g, 0, cap, cur, (0, 0), by rw [e1]; simp, by show w.heap.size + 2 ≤ g; omega, by rw [heap_setCell_other w9 ⟨go, 3, none⟩ g _ hgne]; exact hgh, Ets.At.of_get _ _ _ fun j hj => ?_⟩
      have hxl : xs.length = l.length * 4 := ho.1
      have hc5 : ∀ i, i < 4 → cur[0 + 4 * j + i]? = (xs ++ nilC.toList)[4 * j + i]? := by
        intro i hi
        have hj2 : j < l.length + 1 := by simpa using hj
        rw [← htake, List.getElem?_take, if_pos (by omega)]; simp
      by_cases hjl : j < l.length
      · obtain ⟨cs, h1, h3, h4⟩ := hd j hjl
        refine ⟨cs, fun i hi => ?_, ?_⟩
        · rw [hc5 i hi, List.getElem?_append_left (by omega)]; exact h3 i hi
        · rw [List.getElem_append_left hjl]
          refine Et.At.mono (fun x hx => by have := hx.1; show w.heap.size + 2 ≤ x; omega) _ _ (Et.At.keeps (Keeps.setCell _ _ _ fun x hx => hx.2.2) _ _ (Et.At.keeps (Keeps.of_grown hg fun x hx e => hx.2.1 e.symm) _ _ h4))
      · have hj' : j = l.length := by simp at hj; omega
        subst hj'
        refine ⟨nilC, fun i hi => ?_, ?_⟩
        · rw [hc5 i hi, List.getElem?_append_right (by omega), show 4 * l.length + i - xs.length = i by omega]; simp
        · rw [List.getElem_append_right (by omega)]; simp; exact nil_at _ _
  · rw [fine_mk] at hf ⊢
    refine ⟨hf.1, hf.2.1, hf.2.2.1, fun x hx => ?_⟩
    rcases List.mem_append.1 hx with hx | hx
    · exact hf.2.2.2 x hx
    · simp at hx; subst hx; rw [fine_mk]; exact ⟨by decide, by simp, by simp, by simp⟩
/-- The last part is left out. -/
theorem SpW.cutA {w W : World} {gr go B s : Nat} {k : Int} {t : ByteArray} {ns : List ByteArray} {l : List Et} {ao : Option Addr} {ac : Nat} {nv : Value} (h : SpW w W gr go B k t ns l nv (.slice ao l.length ac)) (m : Nat) (hm : m + 1 = l.length) (hs : 1 + Et.sizes l ≤ s) (hf : (Et.mk k t ns l).fine) :
    Hid (EB (W.setCell ⟨go, 3, none⟩ (.slice ao m ac)) go k t nv (.slice ao m ac)) ∧ Hid ((W.setCell ⟨go, 3, none⟩ (.slice ao m ac)).heap[gr]? = some (.cells Z4 28 (0, 0))) ∧ (#[.int .i64 k, .string t, nv, .slice ao m ac] : Array Value).all (·.oneCell') = true ∧
      Hid (RetSp s w (.returned (.agg #[.int .i64 k, .string t, nv, .slice ao m ac])) ((W.setCell ⟨go, 3, none⟩ (.slice ao m ac)).setRow gr #[.int .i64 k, .string t, nv, .slice ao m ac])) := by
  obtain ⟨h1, h2⟩ := h.below_set ⟨go, 3, none⟩ h.hgo (.slice ao m ac)
  have hle := esizes_take_le l m
  have hB := h.hB
  refine h.ends h1 h2 (EB.setA h.out _) (l' := l.take m) ((h.nmsAt.keeps (Keeps.setCell _ _ _ fun x hx => hx.2.1)).mono fun x hx => hx.1) ?_ (by simp only [Et.size]; omega) ?_
  · have h3 := (h.pts.keeps (Keeps.setCell _ ⟨go, 3, none⟩ (.slice ao m ac) fun x hx => hx.2)).mono (T := fun x => w.heap.size + 2 ≤ x) fun x hx => by have := hx.1; omega
    rcases h3 with ⟨e, e2⟩ | ⟨g, o, cap, arr, fz, e, hS, hg, hd⟩
    · rw [e2] at hm; simp at hm
    · injection e with e1 e2 e3
      subst e1 e3
      have hlt : (l.take m).length = m := by rw [List.length_take]; omega
      refine .inr ⟨g, o, ac, arr, fz, by rw [hlt], hS, hg, Ets.At.of_get _ _ _ fun j hj => ?_⟩
      obtain ⟨cs, h4, h5⟩ := Ets.At.get l arr o hd j (by omega)
      exact ⟨cs, h4, by rw [List.getElem_take]; exact h5⟩
  · rw [fine_mk] at hf ⊢
    exact ⟨hf.1, hf.2.1, hf.2.2.1, fun x hx => hf.2.2.2 x (List.mem_of_mem_take hx)⟩
/-- The second name is the first one once more. -/
theorem SpW.twice {w W : World} {gr go B s : Nat} {k : Int} {t : ByteArray} {ns : List ByteArray} {l : List Et} {no : Option Addr} {nc : Nat} {av : Value} (h : SpW w W gr go B k t ns l (.slice no ns.length nc) av) (hn : 2 ≤ ns.length) (hs : 1 + Et.sizes l ≤ s) (hf : (Et.mk k t ns l).fine) :
    ∃ g x, no = some ⟨g, 0, none⟩ ∧ g < W.heap.size ∧ g ≠ go ∧ w.heap.size + 2 ≤ g ∧ W.cell? ⟨g, 0, none⟩ = some (.string x) ∧ (∃ y, W.cell? ⟨g, 1, none⟩ = some (.string y)) ∧ W.frozen? ⟨g, 1, none⟩ = false ∧
      Hid (EB (W.setCell ⟨g, 1, none⟩ (.string x)) go k t (.slice no ns.length nc) av) ∧ Hid ((W.setCell ⟨g, 1, none⟩ (.string x)).heap[gr]? = some (.cells Z4 28 (0, 0))) ∧ (#[.int .i64 k, .string t, .slice no ns.length nc, av] : Array Value).all (·.oneCell') = true ∧
      Hid (RetSp s w (.returned (.agg #[.int .i64 k, .string t, .slice no ns.length nc, av])) ((W.setCell ⟨g, 1, none⟩ (.string x)).setRow gr #[.int .i64 k, .string t, .slice no ns.length nc, av])) := by
  have hB := h.hB
  have hgo := h.hgo
  rcases h.nms.2 with ⟨_, hz⟩ | ⟨g, cap, cur, e, hbg, hg, hnc, hcm, hcs, htake⟩
  · omega
  · injection e with e1 e2 e3
    subst e1 e3
    have hown : (Value.slice (some ⟨g, 0, none⟩) ns.length nc).ownBlock = some g := rfl
    have hgB := h.nmsB g hown
    have hcur : ∀ j (hj : j < ns.length), cur[j]? = some (.string ns[j]) := by
      intro j hj
      have h5 : (cur.toList.take (ns.length * 1))[j]? = (ns.map Value.string)[j]? := by rw [htake]
      rw [List.getElem?_take, if_pos (by omega), List.getElem?_map, List.getElem?_eq_getElem hj] at h5
      simpa using h5
    obtain ⟨h1, h2⟩ := h.below_set ⟨g, 1, none⟩ hbg (.string ns[0])
    refine ⟨g, ns[0], rfl, (Array.getElem?_eq_some_iff.1 hg).1, hgB.2, hbg, by rw [Lib.cell_of_heap hg]; exact hcur 0 (by omega), ⟨ns[1], by rw [Lib.cell_of_heap hg]; exact hcur 1 (by omega)⟩, frozen_of_row W g 1 _ 9 hg, ?_⟩
    have hEB : EB (W.setCell ⟨g, 1, none⟩ (.string ns[0])) go k t (.slice (some ⟨g, 0, none⟩) ns.length nc) av := by
      unfold EB; rw [heap_setCell_other W ⟨g, 1, none⟩ go _ (by show go ≠ g; exact fun e => hgB.2 e.symm)]; exact h.out
    have hlen : (ns.set 1 ns[0]).length = ns.length := by simp
    refine h.ends h1 h2 hEB (ns' := ns.set 1 ns[0]) (l' := l) ?_ ((h.pts.keeps (Keeps.setCell _ _ _ fun x hx => by have := hx.1; show x ≠ g; omega)).mono fun x hx => by have := hx.1; omega) (by simp only [Et.size]; omega) ?_
    · have hs9 := heap_setCell_same W g 1 _ 9 (.string ns[0]) hg
      refine .inr ⟨g, 0, nc, _, _, by rw [hlen], hbg, hs9, fun j hj => ?_, by rw [hlen]; exact hnc⟩
      rw [hlen] at hj
      rw [Nat.zero_add, List.getElem_set]
      by_cases h1j : 1 = j
      · subst h1j
        rw [if_pos rfl]
        have : 1 < cur.size := by have := hcur 1 (by omega); exact (Array.getElem?_eq_some_iff.1 this).1
        simp [this]
      · rw [if_neg h1j, ← hcur j hj]
        simp [Array.getElem?_setIfInBounds, h1j]
    · rw [fine_mk] at hf ⊢
      refine ⟨hf.1, by rw [hlen]; exact hf.2.1, fun x hx => ?_, hf.2.2.2⟩
      rcases List.mem_or_eq_of_mem_set hx with hx | rfl
      · exact hf.2.2.1 x hx
      · exact hf.2.2.1 _ (List.getElem_mem _)
def spT : List ByteArray := [⟨#[]⟩, ⟨#[120]⟩, ⟨#[43]⟩, ⟨#[35, 116]⟩, ⟨#[48, 48, 55]⟩]
theorem spT_small (i : Nat) (h : i < 5) : (spT.getD i ⟨#[]⟩).size ≤ 100 := by
  match i, h with
  | 0, _ => decide
  | 1, _ => decide
  | 2, _ => decide
  | 3, _ => decide
  | 4, _ => decide
  | n + 5, h => exact absurd h (by omega)
theorem SpW.drew {w W : World} {gr go B : Nat} {k : Int} {t : ByteArray} {ns : List ByteArray} {l : List Et} {nv av : Value} (h : SpW w W gr go B k t ns l nv av) : SpW w W.drew gr go B k t ns l nv av := by
  have hb : Below W.heap.size W W.drew := (Below.refl _ _).drew
  refine ⟨h.hgr, h.hgo, h.lt, h.below.drew, h.res, h.out, h.nms, h.nmsB, h.hB, h.hBW, ?_, h.pts.keeps (Keeps.of_below hb)⟩
  obtain ⟨xs, ho, hd⟩ := h.own
  refine ⟨xs, ho, fun j hj => ?_⟩
  obtain ⟨cs, h1, h2, h3⟩ := hd j hj
  exact ⟨cs, h1, h2, Et.At.keeps (Keeps.of_below hb) _ _ h3⟩
theorem SpW.form {w W : World} {gr go B : Nat} {k : Int} {t : ByteArray} {ns : List ByteArray} {l : List Et} {ao : Option Addr} {ac : Nat} {nv : Value} (h : SpW w W gr go B k t ns l nv (.slice ao l.length ac)) (hl : 0 < l.length) : ∃ g, ao = some ⟨g, 0, none⟩ ∧ l.length ≤ ac ∧ g ≠ go ∧ B ≤ g ∧ g < W.heap.size := by
  obtain ⟨xs, ho, hd⟩ := h.own
  rcases ho.2 with ⟨_, e0⟩ | ⟨g, cap, cur, e1, hBg, hgh, hnc, hcm, hcs, htake⟩
  · omega
  · injection e1 with e1 e2 e3
    subst e1 e3
    refine ⟨g, rfl, hnc, ?_, hBg, (Array.getElem?_eq_some_iff.1 hgh).1⟩
    rcases h.pts with ⟨e, e0⟩ | ⟨g2, o, cap2, arr, fz, e, hS, hg, _⟩
    · rw [e0] at hl; simp at hl
    · injection e with e
      injection e with e
      injection e with e
      subst e
      exact hS.2
theorem wrap64_nat (m : Nat) (h : m ≤ 1000000) : wrap64 (m : Int) = (m : Int) := by
  have h2 : (0 : Int) ≤ (m : Int) := Int.natCast_nonneg m
  have h3 : (m : Int) ≤ 1000000 := by omega
  generalize (m : Int) = x at h2 h3 ⊢
  unfold wrap64; omega
theorem I64_tdiv (a b : Int) (ha : I64 a) (hb : 1 ≤ b) : I64 (a.tdiv b) := by
  have h := Int.natAbs_tdiv_le_natAbs a b
  obtain ⟨h1, h2⟩ := ha
  by_cases h0 : 0 ≤ a
  · have := Int.tdiv_nonneg h0 (show 0 ≤ b by omega)
    exact ⟨by omega, by omega⟩
  · have e : a.tdiv b = -((-a).tdiv b) := by rw [Int.neg_tdiv, Int.neg_neg]
    have := Int.tdiv_nonneg (show 0 ≤ -a by omega) (show 0 ≤ b by omega)
    exact ⟨by omega, by omega⟩
end Go.Proofs.Ytpkcoplpfenliaa
/- spoilt: one part is put in another's place. -/
namespace Go.Proofs.Ytpkcoplpfenliaa
open Go.RowKit Go.BigM
set_option linter.unusedVariables false
set_option linter.unusedSimpArgs false
theorem EAt_slices {S : Nat → Prop} {w : World} {e : Et} {cs : Array Value} (h : Et.At S w e cs) : ∃ k t no nn nc ao an ac, cs = #[.int .i64 k, .string t, .slice no nn nc, .slice ao an ac] := by
  obtain ⟨k, t, ns, l⟩ := e
  rw [EAt_mk] at h
  obtain ⟨nv, av, e, hm, hl⟩ := h
  obtain ⟨no, nc, rfl⟩ := hm.form
  obtain ⟨ao, ac, rfl⟩ := hl.form
  exact ⟨_, _, _, _, _, _, _, _, e⟩
/-- Four cells in a row. -/
abbrev set4 (w : World) (g o : Nat) (a b c d : Value) : World := (((w.setCell ⟨g, o, none⟩ a).setCell ⟨g, o + 1, none⟩ b).setCell ⟨g, o + 2, none⟩ c).setCell ⟨g, o + 3, none⟩ d
theorem heap_set4 (w : World) (g o : Nat) (a b c d : Value) (arr : Array Value) (T : TypeId) (h : w.heap[g]? = some (.cells arr T (0, 0))) :
    (set4 w g o a b c d).heap[g]? = some (.cells ((((arr.setIfInBounds o a).setIfInBounds (o + 1) b).setIfInBounds (o + 2) c).setIfInBounds (o + 3) d) T (0, 0)) := by
  have h1 := heap_setCell_same w g o arr T a h
  have h2 := heap_setCell_same _ g (o + 1) _ T b h1
  have h3 := heap_setCell_same _ g (o + 2) _ T c h2
  exact heap_setCell_same _ g (o + 3) _ T d h3
theorem heap_set4_other (w : World) (g o : Nat) (a b c d : Value) (x : Nat) (h : x ≠ g) : (set4 w g o a b c d).heap[x]? = w.heap[x]? := by
  unfold set4
  rw [heap_setCell_other _ ⟨g, o + 3, none⟩ x _ h, heap_setCell_other _ ⟨g, o + 2, none⟩ x _ h, heap_setCell_other _ ⟨g, o + 1, none⟩ x _ h, heap_setCell_other _ ⟨g, o, none⟩ x _ h]
theorem But.set4 {B g o : Nat} {a w : World} (h : But B g a w) (p q r s : Value) : But B g a (set4 w g o p q r s) :=
  (((h.setCell (p := ⟨g, o, none⟩) (.inr rfl) p).setCell (p := ⟨g, o + 1, none⟩) (.inr rfl) q).setCell (p := ⟨g, o + 2, none⟩) (.inr rfl) r).setCell (p := ⟨g, o + 3, none⟩) (.inr rfl) s
theorem sizes_set : ∀ (l : List Et) (j : Nat) (hj : j < l.length) (t : Et), t.size ≤ l[j].size + 1 → Et.sizes (l.set j t) ≤ Et.sizes l + 1
  | [], j, hj, t, h => by simp at hj
  | d :: l, 0, hj, t, h => by simp only [List.set_cons_zero, Et.sizes, List.getElem_cons_zero] at h ⊢; omega
  | d :: l, j + 1, hj, t, h => by
    have := sizes_set l j (by simpa using hj) t (by simpa using h)
    simp only [List.set_cons_succ, Et.sizes]; omega
/-- The part at j lies in the row; behind the call the new one may be put there. -/
theorem SpW.part {w W : World} {gr go B s : Nat} {k : Int} {t : ByteArray} {ns : List ByteArray} {l : List Et} {ao : Option Addr} {ac : Nat} {nv : Value} (h : SpW w W gr go B k t ns l nv (.slice ao l.length ac)) (j : Nat) (hj : j < l.length) (hs : 1 + Et.sizes l ≤ s) (hf : (Et.mk k t ns l).fine) :
    ∃ g k5 t5 nv5 av5, ao = some ⟨g, 0, none⟩ ∧ g < W.heap.size ∧ g ≠ go ∧ Et.At (fun x => B ≤ x ∧ x ≠ go ∧ x ≠ g) W l[j] #[.int .i64 k5, .string t5, nv5, av5] ∧
      W.cell? ⟨g, j * 4, none⟩ = some (.int .i64 k5) ∧ W.cell? ⟨g, j * 4 + 1, none⟩ = some (.string t5) ∧ W.cell? ⟨g, j * 4 + 2, none⟩ = some nv5 ∧ W.cell? ⟨g, j * 4 + 3, none⟩ = some av5 ∧ nv5.oneCell' = true ∧ av5.oneCell' = true ∧
      ∀ w7 t7 k6 t6 nv6 av6, Below W.heap.size W w7 → Et.At (fun x => W.heap.size ≤ x) w7 t7 #[.int .i64 k6, .string t6, nv6, av6] → t7.size ≤ l[j].size + 1 → t7.fine →
        (w7.cell? ⟨g, j * 4, none⟩ = some (.int .i64 k5) ∧ w7.cell? ⟨g, j * 4 + 1, none⟩ = some (.string t5) ∧ w7.cell? ⟨g, j * 4 + 2, none⟩ = some nv5 ∧ w7.cell? ⟨g, j * 4 + 3, none⟩ = some av5) ∧ (∀ i, w7.frozen? ⟨g, i, none⟩ = false) ∧
        Hid (EB (set4 w7 g (j * 4) (.int .i64 k6) (.string t6) nv6 av6) go k t nv (.slice ao l.length ac)) ∧ Hid ((set4 w7 g (j * 4) (.int .i64 k6) (.string t6) nv6 av6).heap[gr]? = some (.cells Z4 28 (0, 0))) ∧ (#[.int .i64 k, .string t, nv, .slice ao l.length ac] : Array Value).all (·.oneCell') = true ∧
        Hid (RetSp s w (.returned (.agg #[.int .i64 k, .string t, nv, .slice ao l.length ac])) ((set4 w7 g (j * 4) (.int .i64 k6) (.string t6) nv6 av6).setRow gr #[.int .i64 k, .string t, nv, .slice ao l.length ac])) := by
  obtain ⟨xs, ho, hd⟩ := h.own
  have hB := h.hB
  have hgo := h.hgo
  have hgr := h.hgr
  have hlt := h.lt
  obtain ⟨g0, e0, -, hgg, hBg0, hgW⟩ := h.form (by omega)
  subst e0
  rcases ho.2 with ⟨e, _⟩ | ⟨g, cap, cur, e1, hBg, hgh, hnc, hcm, hcs, htake⟩
  · injection e with e; cases e
  · injection e1 with e1 e2 e3
    injection e1 with e1
    injection e1 with e1
    subst e1 e3
    have hxl : xs.length = l.length * 4 := ho.1
    have hcur : ∀ i, i < l.length * 4 → cur[i]? = xs[i]? := by
      intro i hi
      rw [← htake, List.getElem?_take, if_pos hi]; simp
    obtain ⟨cs, hc1, hc2, hc3⟩ := hd j hj
    obtain ⟨k5, t5, nv5, av5, rfl, o1, o2⟩ := EAt_form hc3
    have hcell : ∀ i, i < 4 → cur[j * 4 + i]? = (#[.int .i64 k5, .string t5, nv5, av5] : Array Value)[i]? := by
      intro i hi
      rw [hcur _ (by omega), ← hc2 i hi, Nat.mul_comm]
    have hat : Et.At (fun x => B ≤ x ∧ x ≠ go ∧ x ≠ g0) W l[j] #[.int .i64 k5, .string t5, nv5, av5] := Et.At.mono (fun x hx => ⟨hx.1, hx.2.2, fun e => hx.2.1 (by rw [e]; rfl)⟩) _ _ hc3
    refine ⟨g0, k5, t5, nv5, av5, rfl, hgW, hgg, hat, by rw [Lib.cell_of_heap hgh]; exact hcell 0 (by decide), by rw [Lib.cell_of_heap hgh]; exact hcell 1 (by decide), by rw [Lib.cell_of_heap hgh]; exact hcell 2 (by decide), by rw [Lib.cell_of_heap hgh]; exact hcell 3 (by decide), o1, o2, ?_⟩
    intro w7 t7 k6 t6 nv6 av6 hb7 hat7 hs7 hf7
    have hg7 := row_below hb7 hgh
    have hsz7 := hb7.size
    refine ⟨⟨by rw [Lib.cell_of_heap hg7]; exact hcell 0 (by decide), by rw [Lib.cell_of_heap hg7]; exact hcell 1 (by decide), by rw [Lib.cell_of_heap hg7]; exact hcell 2 (by decide), by rw [Lib.cell_of_heap hg7]; exact hcell 3 (by decide)⟩, fun i => frozen_of_row w7 g0 i _ 28 hg7, ?_⟩
    have hrow := heap_set4 w7 g0 (j * 4) (.int .i64 k6) (.string t6) nv6 av6 cur 28 hg7
    have hoth := fun x hx => heap_set4_other w7 g0 (j * 4) (.int .i64 k6) (.string t6) nv6 av6 x hx
    have hk : ∀ {S : Nat → Prop}, (∀ x, S x → x ≠ g0) → Keeps S w7 (set4 w7 g0 (j * 4) (.int .i64 k6) (.string t6) nv6 av6) := fun hS x c T fz hx hxx _ => ⟨fz, by rw [hoth x (hS x hx)]; exact hxx⟩
    have hbel : Below w.heap.size w (set4 w7 g0 (j * 4) (.int .i64 k6) (.string t6) nv6 av6) := by
      have h1 : Below w.heap.size w w7 := h.below.trans (hb7.mono h.below.size)
      exact ((((h1.setCell (p := ⟨g0, j * 4, none⟩) (by show w.heap.size ≤ g0; omega) _).setCell (p := ⟨g0, j * 4 + 1, none⟩) (by show w.heap.size ≤ g0; omega) _).setCell (p := ⟨g0, j * 4 + 2, none⟩) (by show w.heap.size ≤ g0; omega) _).setCell (p := ⟨g0, j * 4 + 3, none⟩) (by show w.heap.size ≤ g0; omega) _)
    generalize set4 w7 g0 (j * 4) (.int .i64 k6) (.string t6) nv6 av6 = WR at hrow hoth hk hbel
    have hset := sizes_set l j hj t7 hs7
    have hlen : (l.set j t7).length = l.length := by simp
    refine h.ends hbel (by rw [hoth gr (by omega)]; exact row_below hb7 h.res) (by unfold EB; rw [hoth go (fun e => hgg e.symm)]; exact row_below hb7 h.out) (ns' := ns) (l' := l.set j t7) (((h.nmsAt.keeps (Keeps.of_below hb7)).keeps (hk fun x hx => by have := hx.2.2; omega)).mono fun x hx => hx.1) ?_ (by simp only [Et.size]; omega) ?_
    · refine .inr ⟨g0, 0, ac, _, (0, 0), by rw [hlen], by show w.heap.size + 2 ≤ g0; omega, hrow, Ets.At.of_get _ _ _ fun i hi => ?_⟩
      rw [hlen] at hi
      by_cases hij : i = j
      · subst hij
        have hsize : i * 4 + 3 < cur.size := by
          have h3 := hcell 3 (by decide)
          exact (Array.getElem?_eq_some_iff.1 h3).1
        refine ⟨#[.int .i64 k6, .string t6, nv6, av6], fun q hq => ?_, ?_⟩
        · have e : 0 + 4 * i + q = i * 4 + q := by omega
          rw [e]
          match q, hq with
          | 0, _ => simp [Array.getElem?_setIfInBounds]; omega
          | 1, _ => simp [Array.getElem?_setIfInBounds]; omega
          | 2, _ => simp [Array.getElem?_setIfInBounds]; omega
          | 3, _ => simp [Array.getElem?_setIfInBounds]; omega
          | q + 4, hq => exact absurd hq (by omega)
        · rw [List.getElem_set_self]
          exact Et.At.mono (fun x hx => by have : W.heap.size ≤ x := hx; show w.heap.size + 2 ≤ x; omega) _ _ (Et.At.keeps (hk fun x hx => by have : W.heap.size ≤ x := hx; omega) _ _ hat7)
      · obtain ⟨cs, d1, d2, d3⟩ := hd i hi
        refine ⟨cs, fun q hq => ?_, ?_⟩
        · rw [← d2 q hq, ← hcur _ (by omega)]
          have n0 : j * 4 ≠ 0 + 4 * i + q := by omega
          have n1 : j * 4 + 1 ≠ 0 + 4 * i + q := by omega
          have n2 : j * 4 + 2 ≠ 0 + 4 * i + q := by omega
          have n3 : j * 4 + 3 ≠ 0 + 4 * i + q := by omega
          rw [Array.getElem?_setIfInBounds, if_neg n3, Array.getElem?_setIfInBounds, if_neg n2, Array.getElem?_setIfInBounds, if_neg n1, Array.getElem?_setIfInBounds, if_neg n0, Nat.zero_add]
        · rw [List.getElem_set_ne (fun e => hij e.symm)]
          refine Et.At.mono (fun x hx => by have := hx.1; show w.heap.size + 2 ≤ x; omega) _ _ (Et.At.keeps (hk fun x hx e => hx.2.1 (by rw [e]; rfl)) _ _ (Et.At.keeps (Keeps.of_below hb7) _ _ d3))
    · rw [fine_mk] at hf ⊢
      refine ⟨hf.1, hf.2.1, hf.2.2.1, fun x hx => ?_⟩
      rcases List.mem_or_eq_of_mem_set hx with hx | rfl
      · exact hf.2.2.2 x hx
      · exact hf7
end Go.Proofs.Ytpkcoplpfenliaa
/- spoilt, by what is turned: its kind. -/
namespace Go.Proofs.Ytpkcoplpfenliaa
open Go.RowKit Go.BigM
set_option linter.unusedVariables false
set_option linter.unusedSimpArgs false
set_option maxHeartbeats 8000000 in
set_option maxRecDepth 100000 in
theorem sp0 (k : Int) (t : ByteArray) (ns : List ByteArray) (l : List Et) (S : Nat → Prop) (cs : Array Value) (w : World) (n by_ : Int) (hat : Et.At S w (.mk k t ns l) cs) (hf : SpF (.mk k t ns l)) (hn : I64 n) (hby : I64 by_) (hA : l.length = 0 ∨ n % 3 = 0) (hq : by_ % 7 = 0) :
    Calls Try.prog 14 #[.agg cs, .int .i64 n, .int .i64 by_] w (RetSp (1 + Et.sizes l) w) := by
  have hCC := copy_any 401 (by decide) _ (by have := hf.size; omega) hf.fine
  have hnl := hf.names
  have hfine := hf.fine
  have hsz := hf.size
  simp only [Et.size] at hsz
  have hln := length_esizes l
  rw [fine_mk] at hfine
  obtain ⟨ht1, -, hns1, hfl⟩ := hfine
  have hat0 := hat
  obtain ⟨k0, t0, nv0, av0, rfl, o1, o2⟩ := EAt_form hat
  have hb1 : Below w.heap.size w ((w.alloc (.cells #[.int .i64 k0, .string t0, nv0, av0] 28)).alloc (.cells Z4 28)) := ((Below.refl w.heap.size w).alloc (Nat.le_refl _) _).alloc (by simp) _
  have hrow : ((w.alloc (.cells #[.int .i64 k0, .string t0, nv0, av0] 28)).alloc (.cells Z4 28)).heap[w.heap.size]? = some (.cells #[.int .i64 k0, .string t0, nv0, av0] 28 (0, 0)) := (Lib.alloc_old _ _ _ (by simp)).trans (alloc_at w _)
  have hz : ((w.alloc (.cells #[.int .i64 k0, .string t0, nv0, av0] 28)).alloc (.cells Z4 28)).heap[w.heap.size + 1]? = some (.cells Z4 28 (0, 0)) := by
    have h := alloc_at (w.alloc (.cells #[.int .i64 k0, .string t0, nv0, av0] 28)) (.cells Z4 28)
    have e : (w.alloc (.cells #[.int .i64 k0, .string t0, nv0, av0] 28)).heap.size = w.heap.size + 1 := by simp
    rw [e] at h; exact h
  have hs1 : ((w.alloc (.cells #[.int .i64 k0, .string t0, nv0, av0] 28)).alloc (.cells Z4 28)).heap.size = w.heap.size + 2 := by simp
  have HAT := Lib.hid (Et.At.keeps (Keeps.of_below hb1) _ _ hat)
  have HC := Lib.hid (hCC S _ _ HAT.out)
  have HB1 := Lib.hid hb1
  have HZ := Lib.hid hz
  have HS1 := Lib.hid hs1
  have HFL := Lib.hid hfl
  have HNS := Lib.hid hns1
  have HSF := Lib.hid hf
  have c0 := (EB.cell _ _ _ _ _ _ hrow)
  obtain ⟨c0, c1, c2, c3⟩ := c0
  clear hCC hat hat0 hb1 hrow hz hs1 hfl hns1 hf
  go_enter Try.func14, Try.ntmps14
  go_upto_region 1 with fail
  generalize (w.alloc (.cells #[.int .i64 k0, .string t0, nv0, av0] 28)).alloc (.cells #[.int .i64 0, .string ⟨#[]⟩, .slice none 0 0, .slice none 0 0] 28) = W1 at HAT HC HB1 HZ HS1 c0 c1 c2 c3 ⊢
  go_wp2_with fail
  refine HC.out.mono ?_
  rintro e w5 hret
  obtain ⟨no, nc, ao, ac, B, rfl, hone, hsp⟩ := sp_open hret HB1.out HS1.out HZ.out
  have HSP := Lib.hid hsp
  clear hret hsp HC HAT HB1 HZ HS1 c0 c1 c2 c3
  go_upto_region 2 with (refine wpList_store_row rfl 28 _ _ rfl w5.heap.size #[.int .i64 k, .string t, .slice no ns.length nc, .slice ao l.length ac] rfl rfl 28 Z4 (alloc_at _ _) info28 rfl hone ?_)
  try simp only [Act.put]
  have E0 : (w5.alloc (.cells #[.int .i64 0, .string ⟨#[]⟩, .slice none 0 0, .slice none 0 0] 28)).setRow w5.heap.size #[.int .i64 k, .string t, .slice no ns.length nc, .slice ao l.length ac] = w5.alloc (.cells #[.int .i64 k, .string t, .slice no ns.length nc, .slice ao l.length ac] 28) := setRow_new _ _ _ _
  try rw [E0]
  clear E0
  generalize w5.alloc (.cells #[.int .i64 k, .string t, .slice no ns.length nc, .slice ao l.length ac] 28) = W at HSP ⊢
  obtain ⟨go, hgo⟩ : ∃ go, go = w5.heap.size := ⟨_, rfl⟩
  obtain ⟨gr, hgr⟩ : ∃ gr, gr = w.heap.size + 1 := ⟨_, rfl⟩
  rw [← hgo, ← hgr] at HSP
  simp only [← hgo, ← hgr]
  have HGR := Lib.hid hgr
  clear hgo hgr hone
  have SPP := HSP.out
  have hgo1 := SPP.hgo
  have hgo2 := SPP.lt
  have hB := SPP.hB
  have HO : Hid (EB W go k t (.slice no ns.length nc) (.slice ao l.length ac)) := SPP.out
  obtain ⟨c0, c1, c2, c3⟩ := EB.cell _ _ _ _ _ _ HO.out
  have f0 := EB.frozen HO.out 0
  have f1 := EB.frozen HO.out 1
  have f2 := EB.frozen HO.out 2
  have f3 := EB.frozen HO.out 3
  clear SPP
  have F7 := Lib.hid (fun w => within_is by_ 7 0 hby (by decide) (by decide) hq w)
  clear hq
  by_cases hl0 : l.length = 0
  · have q0 : decide ((0 : Int) < (l.length : Int)) = false := decide_eq_false (by omega)
    have p0 : ¬ 0 < l.length := by omega
    clear hA hl0
    go_upto_region 6 with fail
    go_wp2_with fail
    refine (F7.out _).mono ?_
    rintro e w6 ⟨rfl, rfl⟩
    have F13 := Lib.hid (fun w => within_some (wrap64 (by_.tdiv 7)) 13 (I64_wrap _) (by decide) (by decide) w)
    go_wp2_with fail
    refine (F13.out _).mono ?_
    rintro e w8 ⟨q, hq, rfl, rfl⟩
    have e13 : wrap64 ((q : Int) - 1) = (q : Int) - 1 := by unfold wrap64; omega
    go_upto_region 23 with fail
    obtain ⟨HEB, HZ9, hone9, HF⟩ := HSP.out.setK (s := 1 + Et.sizes l) ((q : Int) - 1) (Nat.le_refl _) HSF.out.fine
    generalize W.setCell { block := go, off := 0 } (Value.int IntKind.i64 ((q : Int) - 1)) = WR at HEB HZ9 HF ⊢
    go_wp2_with (first | (refine wpList_load_row rfl 28 _ rfl go rfl 28 #[.int .i64 ((q : Int) - 1), .string t, .slice no ns.length nc, .slice ao l.length ac] (0, 0) _ HEB.out Try.underlying28 rfl info28 ?_) | (refine wpList_store_row rfl 28 _ _ rfl gr #[.int .i64 ((q : Int) - 1), .string t, .slice no ns.length nc, .slice ao l.length ac] rfl rfl 28 Z4 HZ9.out info28 rfl hone9 ?_))
    refine bodyPost_ret (results_cell_row rfl _ _ gr 28 #[.int .i64 ((q : Int) - 1), .string t, .slice no ns.length nc, .slice ao l.length ac] (0, 0) _ rfl (setRow_heap WR _ _ _ 28 _ HZ9.out) Try.underlying28 rfl info28) rfl ?_
    exact HF.out
  · have q0 : decide ((0 : Int) < (l.length : Int)) = true := decide_eq_true (by omega)
    have p0 : 0 < l.length := by omega
    have F3 := Lib.hid (fun w => within_is n 3 0 hn (by decide) (by decide) (hA.resolve_left hl0) w)
    clear hA hl0
    go_wp2_with fail
    refine (F3.out _).mono ?_
    rintro e w6 ⟨rfl, rfl⟩
    go_upto_region 6 with fail
    go_wp2_with fail
    refine (F7.out _).mono ?_
    rintro e w7 ⟨rfl, rfl⟩
    have F13 := Lib.hid (fun w => within_some (wrap64 (by_.tdiv 7)) 13 (I64_wrap _) (by decide) (by decide) w)
    go_wp2_with fail
    refine (F13.out _).mono ?_
    rintro e w8 ⟨q, hq, rfl, rfl⟩
    have e13 : wrap64 ((q : Int) - 1) = (q : Int) - 1 := by unfold wrap64; omega
    go_upto_region 23 with fail
    obtain ⟨HEB, HZ9, hone9, HF⟩ := HSP.out.setK (s := 1 + Et.sizes l) ((q : Int) - 1) (Nat.le_refl _) HSF.out.fine
    generalize W.setCell { block := go, off := 0 } (Value.int IntKind.i64 ((q : Int) - 1)) = WR at HEB HZ9 HF ⊢
    go_wp2_with (first | (refine wpList_load_row rfl 28 _ rfl go rfl 28 #[.int .i64 ((q : Int) - 1), .string t, .slice no ns.length nc, .slice ao l.length ac] (0, 0) _ HEB.out Try.underlying28 rfl info28 ?_) | (refine wpList_store_row rfl 28 _ _ rfl gr #[.int .i64 ((q : Int) - 1), .string t, .slice no ns.length nc, .slice ao l.length ac] rfl rfl 28 Z4 HZ9.out info28 rfl hone9 ?_))
    refine bodyPost_ret (results_cell_row rfl _ _ gr 28 #[.int .i64 ((q : Int) - 1), .string t, .slice no ns.length nc, .slice ao l.length ac] (0, 0) _ rfl (setRow_heap WR _ _ _ 28 _ HZ9.out) Try.underlying28 rfl info28) rfl ?_
    exact HF.out
end Go.Proofs.Ytpkcoplpfenliaa
/- spoilt, by what is turned: its text. -/
namespace Go.Proofs.Ytpkcoplpfenliaa
open Go.RowKit Go.BigM
set_option linter.unusedVariables false
set_option linter.unusedSimpArgs false
set_option maxHeartbeats 8000000 in
set_option maxRecDepth 100000 in
theorem sp1 (k : Int) (t : ByteArray) (ns : List ByteArray) (l : List Et) (S : Nat → Prop) (cs : Array Value) (w : World) (n by_ : Int) (hat : Et.At S w (.mk k t ns l) cs) (hf : SpF (.mk k t ns l)) (hn : I64 n) (hby : I64 by_) (hA : l.length = 0 ∨ n % 3 = 0) (hq : by_ % 7 = 1) :
    Calls Try.prog 14 #[.agg cs, .int .i64 n, .int .i64 by_] w (RetSp (1 + Et.sizes l) w) := by
  have hCC := copy_any 401 (by decide) _ (by have := hf.size; omega) hf.fine
  have hnl := hf.names
  have hfine := hf.fine
  have hsz := hf.size
  simp only [Et.size] at hsz
  have hln := length_esizes l
  rw [fine_mk] at hfine
  obtain ⟨ht1, -, hns1, hfl⟩ := hfine
  have hat0 := hat
  obtain ⟨k0, t0, nv0, av0, rfl, o1, o2⟩ := EAt_form hat
  have hb1 : Below w.heap.size w ((w.alloc (.cells #[.int .i64 k0, .string t0, nv0, av0] 28)).alloc (.cells Z4 28)) := ((Below.refl w.heap.size w).alloc (Nat.le_refl _) _).alloc (by simp) _
  have hrow : ((w.alloc (.cells #[.int .i64 k0, .string t0, nv0, av0] 28)).alloc (.cells Z4 28)).heap[w.heap.size]? = some (.cells #[.int .i64 k0, .string t0, nv0, av0] 28 (0, 0)) := (Lib.alloc_old _ _ _ (by simp)).trans (alloc_at w _)
  have hz : ((w.alloc (.cells #[.int .i64 k0, .string t0, nv0, av0] 28)).alloc (.cells Z4 28)).heap[w.heap.size + 1]? = some (.cells Z4 28 (0, 0)) := by
    have h := alloc_at (w.alloc (.cells #[.int .i64 k0, .string t0, nv0, av0] 28)) (.cells Z4 28)
    have e : (w.alloc (.cells #[.int .i64 k0, .string t0, nv0, av0] 28)).heap.size = w.heap.size + 1 := by simp
    rw [e] at h; exact h
  have hs1 : ((w.alloc (.cells #[.int .i64 k0, .string t0, nv0, av0] 28)).alloc (.cells Z4 28)).heap.size = w.heap.size + 2 := by simp
  have HAT := Lib.hid (Et.At.keeps (Keeps.of_below hb1) _ _ hat)
  have HC := Lib.hid (hCC S _ _ HAT.out)
  have HB1 := Lib.hid hb1
  have HZ := Lib.hid hz
  have HS1 := Lib.hid hs1
  have HFL := Lib.hid hfl
  have HNS := Lib.hid hns1
  have HSF := Lib.hid hf
  have c0 := (EB.cell _ _ _ _ _ _ hrow)
  obtain ⟨c0, c1, c2, c3⟩ := c0
  clear hCC hat hat0 hb1 hrow hz hs1 hfl hns1 hf
  go_enter Try.func14, Try.ntmps14
  go_upto_region 1 with fail
  generalize (w.alloc (.cells #[.int .i64 k0, .string t0, nv0, av0] 28)).alloc (.cells #[.int .i64 0, .string ⟨#[]⟩, .slice none 0 0, .slice none 0 0] 28) = W1 at HAT HC HB1 HZ HS1 c0 c1 c2 c3 ⊢
  go_wp2_with fail
  refine HC.out.mono ?_
  rintro e w5 hret
  obtain ⟨no, nc, ao, ac, B, rfl, hone, hsp⟩ := sp_open hret HB1.out HS1.out HZ.out
  have HSP := Lib.hid hsp
  clear hret hsp HC HAT HB1 HZ HS1 c0 c1 c2 c3
  go_upto_region 2 with (refine wpList_store_row rfl 28 _ _ rfl w5.heap.size #[.int .i64 k, .string t, .slice no ns.length nc, .slice ao l.length ac] rfl rfl 28 Z4 (alloc_at _ _) info28 rfl hone ?_)
  try simp only [Act.put]
  have E0 : (w5.alloc (.cells #[.int .i64 0, .string ⟨#[]⟩, .slice none 0 0, .slice none 0 0] 28)).setRow w5.heap.size #[.int .i64 k, .string t, .slice no ns.length nc, .slice ao l.length ac] = w5.alloc (.cells #[.int .i64 k, .string t, .slice no ns.length nc, .slice ao l.length ac] 28) := setRow_new _ _ _ _
  try rw [E0]
  clear E0
  generalize w5.alloc (.cells #[.int .i64 k, .string t, .slice no ns.length nc, .slice ao l.length ac] 28) = W at HSP ⊢
  obtain ⟨go, hgo⟩ : ∃ go, go = w5.heap.size := ⟨_, rfl⟩
  obtain ⟨gr, hgr⟩ : ∃ gr, gr = w.heap.size + 1 := ⟨_, rfl⟩
  rw [← hgo, ← hgr] at HSP
  simp only [← hgo, ← hgr]
  have HGR := Lib.hid hgr
  clear hgo hgr hone
  have SPP := HSP.out
  have hgo1 := SPP.hgo
  have hgo2 := SPP.lt
  have hB := SPP.hB
  have HO : Hid (EB W go k t (.slice no ns.length nc) (.slice ao l.length ac)) := SPP.out
  obtain ⟨c0, c1, c2, c3⟩ := EB.cell _ _ _ _ _ _ HO.out
  have f0 := EB.frozen HO.out 0
  have f1 := EB.frozen HO.out 1
  have f2 := EB.frozen HO.out 2
  have f3 := EB.frozen HO.out 3
  clear SPP
  have F7 := Lib.hid (fun w => within_is by_ 7 1 hby (by decide) (by decide) hq w)
  clear hq
  by_cases hl0 : l.length = 0
  · have q0 : decide ((0 : Int) < (l.length : Int)) = false := decide_eq_false (by omega)
    have p0 : ¬ 0 < l.length := by omega
    clear hA hl0
    go_upto_region 6 with fail
    go_wp2_with fail
    refine (F7.out _).mono ?_
    rintro e w6 ⟨rfl, rfl⟩
    have F5 := Lib.hid (fun w => within_some (wrap64 (by_.tdiv 7)) 5 (I64_wrap _) (by decide) (by decide) w)
    have CST : ∀ W : World, W.alloc (.cells #[.string ⟨#[]⟩, .string ⟨#[120]⟩, .string ⟨#[43]⟩, .string ⟨#[35, 116]⟩, .string ⟨#[48, 48, 55]⟩] 9) = W.alloc (.cells (tcells spT) 9) := fun _ => rfl
    have HCS := Lib.hid CST
    clear CST
    go_wp2_with fail
    rw [HCS.out]
    have HSP3 := Lib.hid (HSP.out.alloc (.cells (tcells spT) 9))
    have hg3 := alloc_at W (.cells (tcells spT) 9)
    generalize W.alloc (.cells (tcells spT) 9) = W3 at HSP3 hg3 ⊢
    refine (F5.out _).mono ?_
    rintro e w8 ⟨q, hq, rfl, rfl⟩
    have e0 := tcells_get _ _ spT hg3 q hq
    obtain ⟨x, hx⟩ : ∃ x, spT.getD q ⟨#[]⟩ = x := ⟨_, rfl⟩
    have hxn := spT_small q hq
    rw [hx] at e0 hxn
    have HO3 : Hid (EB W3 go k t (.slice no ns.length nc) (.slice ao l.length ac)) := HSP3.out.out
    have d1 := (EB.cell _ _ _ _ _ _ HO3.out).2.1
    have g1 := EB.frozen HO3.out 1
    clear hx
    go_upto_region 23 with fail
    obtain ⟨HEB, HZ9, hone9, HF⟩ := HSP3.out.setT (s := 1 + Et.sizes l) x hxn (Nat.le_refl _) HSF.out.fine
    generalize W3.setCell { block := go, off := 1 } (Value.string x) = WR at HEB HZ9 HF ⊢
    go_wp2_with (first | (refine wpList_load_row rfl 28 _ rfl go rfl 28 #[.int .i64 k, .string x, .slice no ns.length nc, .slice ao l.length ac] (0, 0) _ HEB.out Try.underlying28 rfl info28 ?_) | (refine wpList_store_row rfl 28 _ _ rfl gr #[.int .i64 k, .string x, .slice no ns.length nc, .slice ao l.length ac] rfl rfl 28 Z4 HZ9.out info28 rfl hone9 ?_))
    refine bodyPost_ret (results_cell_row rfl _ _ gr 28 #[.int .i64 k, .string x, .slice no ns.length nc, .slice ao l.length ac] (0, 0) _ rfl (setRow_heap WR _ _ _ 28 _ HZ9.out) Try.underlying28 rfl info28) rfl ?_
    exact HF.out
  · have q0 : decide ((0 : Int) < (l.length : Int)) = true := decide_eq_true (by omega)
    have p0 : 0 < l.length := by omega
    have F3 := Lib.hid (fun w => within_is n 3 0 hn (by decide) (by decide) (hA.resolve_left hl0) w)
    clear hA hl0
    go_wp2_with fail
    refine (F3.out _).mono ?_
    rintro e w6 ⟨rfl, rfl⟩
    go_upto_region 6 with fail
    go_wp2_with fail
    refine (F7.out _).mono ?_
    rintro e w7 ⟨rfl, rfl⟩
    have F5 := Lib.hid (fun w => within_some (wrap64 (by_.tdiv 7)) 5 (I64_wrap _) (by decide) (by decide) w)
    have CST : ∀ W : World, W.alloc (.cells #[.string ⟨#[]⟩, .string ⟨#[120]⟩, .string ⟨#[43]⟩, .string ⟨#[35, 116]⟩, .string ⟨#[48, 48, 55]⟩] 9) = W.alloc (.cells (tcells spT) 9) := fun _ => rfl
    have HCS := Lib.hid CST
    clear CST
    go_wp2_with fail
    rw [HCS.out]
    have HSP3 := Lib.hid (HSP.out.alloc (.cells (tcells spT) 9))
    have hg3 := alloc_at W (.cells (tcells spT) 9)
    generalize W.alloc (.cells (tcells spT) 9) = W3 at HSP3 hg3 ⊢
    refine (F5.out _).mono ?_
    rintro e w8 ⟨q, hq, rfl, rfl⟩
    have e0 := tcells_get _ _ spT hg3 q hq
    obtain ⟨x, hx⟩ : ∃ x, spT.getD q ⟨#[]⟩ = x := ⟨_, rfl⟩
    have hxn := spT_small q hq
    rw [hx] at e0 hxn
    have HO3 : Hid (EB W3 go k t (.slice no ns.length nc) (.slice ao l.length ac)) := HSP3.out.out
    have d1 := (EB.cell _ _ _ _ _ _ HO3.out).2.1
    have g1 := EB.frozen HO3.out 1
    clear hx
    go_upto_region 23 with fail
    obtain ⟨HEB, HZ9, hone9, HF⟩ := HSP3.out.setT (s := 1 + Et.sizes l) x hxn (Nat.le_refl _) HSF.out.fine
    generalize W3.setCell { block := go, off := 1 } (Value.string x) = WR at HEB HZ9 HF ⊢
    go_wp2_with (first | (refine wpList_load_row rfl 28 _ rfl go rfl 28 #[.int .i64 k, .string x, .slice no ns.length nc, .slice ao l.length ac] (0, 0) _ HEB.out Try.underlying28 rfl info28 ?_) | (refine wpList_store_row rfl 28 _ _ rfl gr #[.int .i64 k, .string x, .slice no ns.length nc, .slice ao l.length ac] rfl rfl 28 Z4 HZ9.out info28 rfl hone9 ?_))
    refine bodyPost_ret (results_cell_row rfl _ _ gr 28 #[.int .i64 k, .string x, .slice no ns.length nc, .slice ao l.length ac] (0, 0) _ rfl (setRow_heap WR _ _ _ 28 _ HZ9.out) Try.underlying28 rfl info28) rfl ?_
    exact HF.out
end Go.Proofs.Ytpkcoplpfenliaa
/- spoilt, by what is turned: a name more. -/
namespace Go.Proofs.Ytpkcoplpfenliaa
open Go.RowKit Go.BigM
set_option linter.unusedVariables false
set_option linter.unusedSimpArgs false
set_option maxHeartbeats 8000000 in
set_option maxRecDepth 100000 in
theorem sp2 (k : Int) (t : ByteArray) (ns : List ByteArray) (l : List Et) (S : Nat → Prop) (cs : Array Value) (w : World) (n by_ : Int) (hat : Et.At S w (.mk k t ns l) cs) (hf : SpF (.mk k t ns l)) (hn : I64 n) (hby : I64 by_) (hA : l.length = 0 ∨ n % 3 = 0) (hq : by_ % 7 = 2) :
    Calls Try.prog 14 #[.agg cs, .int .i64 n, .int .i64 by_] w (RetSp (1 + Et.sizes l) w) := by
  have hCC := copy_any 401 (by decide) _ (by have := hf.size; omega) hf.fine
  have hnl := hf.names
  have hfine := hf.fine
  have hsz := hf.size
  simp only [Et.size] at hsz
  have hln := length_esizes l
  rw [fine_mk] at hfine
  obtain ⟨ht1, -, hns1, hfl⟩ := hfine
  have hat0 := hat
  obtain ⟨k0, t0, nv0, av0, rfl, o1, o2⟩ := EAt_form hat
  have hb1 : Below w.heap.size w ((w.alloc (.cells #[.int .i64 k0, .string t0, nv0, av0] 28)).alloc (.cells Z4 28)) := ((Below.refl w.heap.size w).alloc (Nat.le_refl _) _).alloc (by simp) _
  have hrow : ((w.alloc (.cells #[.int .i64 k0, .string t0, nv0, av0] 28)).alloc (.cells Z4 28)).heap[w.heap.size]? = some (.cells #[.int .i64 k0, .string t0, nv0, av0] 28 (0, 0)) := (Lib.alloc_old _ _ _ (by simp)).trans (alloc_at w _)
  have hz : ((w.alloc (.cells #[.int .i64 k0, .string t0, nv0, av0] 28)).alloc (.cells Z4 28)).heap[w.heap.size + 1]? = some (.cells Z4 28 (0, 0)) := by
    have h := alloc_at (w.alloc (.cells #[.int .i64 k0, .string t0, nv0, av0] 28)) (.cells Z4 28)
    have e : (w.alloc (.cells #[.int .i64 k0, .string t0, nv0, av0] 28)).heap.size = w.heap.size + 1 := by simp
    rw [e] at h; exact h
  have hs1 : ((w.alloc (.cells #[.int .i64 k0, .string t0, nv0, av0] 28)).alloc (.cells Z4 28)).heap.size = w.heap.size + 2 := by simp
  have HAT := Lib.hid (Et.At.keeps (Keeps.of_below hb1) _ _ hat)
  have HC := Lib.hid (hCC S _ _ HAT.out)
  have HB1 := Lib.hid hb1
  have HZ := Lib.hid hz
  have HS1 := Lib.hid hs1
  have HFL := Lib.hid hfl
  have HNS := Lib.hid hns1
  have HSF := Lib.hid hf
  have c0 := (EB.cell _ _ _ _ _ _ hrow)
  obtain ⟨c0, c1, c2, c3⟩ := c0
  clear hCC hat hat0 hb1 hrow hz hs1 hfl hns1 hf
  go_enter Try.func14, Try.ntmps14
  go_upto_region 1 with fail
  generalize (w.alloc (.cells #[.int .i64 k0, .string t0, nv0, av0] 28)).alloc (.cells #[.int .i64 0, .string ⟨#[]⟩, .slice none 0 0, .slice none 0 0] 28) = W1 at HAT HC HB1 HZ HS1 c0 c1 c2 c3 ⊢
  go_wp2_with fail
  refine HC.out.mono ?_
  rintro e w5 hret
  obtain ⟨no, nc, ao, ac, B, rfl, hone, hsp⟩ := sp_open hret HB1.out HS1.out HZ.out
  have HSP := Lib.hid hsp
  clear hret hsp HC HAT HB1 HZ HS1 c0 c1 c2 c3
  go_upto_region 2 with (refine wpList_store_row rfl 28 _ _ rfl w5.heap.size #[.int .i64 k, .string t, .slice no ns.length nc, .slice ao l.length ac] rfl rfl 28 Z4 (alloc_at _ _) info28 rfl hone ?_)
  try simp only [Act.put]
  have E0 : (w5.alloc (.cells #[.int .i64 0, .string ⟨#[]⟩, .slice none 0 0, .slice none 0 0] 28)).setRow w5.heap.size #[.int .i64 k, .string t, .slice no ns.length nc, .slice ao l.length ac] = w5.alloc (.cells #[.int .i64 k, .string t, .slice no ns.length nc, .slice ao l.length ac] 28) := setRow_new _ _ _ _
  try rw [E0]
  clear E0
  generalize w5.alloc (.cells #[.int .i64 k, .string t, .slice no ns.length nc, .slice ao l.length ac] 28) = W at HSP ⊢
  obtain ⟨go, hgo⟩ : ∃ go, go = w5.heap.size := ⟨_, rfl⟩
  obtain ⟨gr, hgr⟩ : ∃ gr, gr = w.heap.size + 1 := ⟨_, rfl⟩
  rw [← hgo, ← hgr] at HSP
  simp only [← hgo, ← hgr]
  have HGR := Lib.hid hgr
  clear hgo hgr hone
  have SPP := HSP.out
  have hgo1 := SPP.hgo
  have hgo2 := SPP.lt
  have hB := SPP.hB
  have HO : Hid (EB W go k t (.slice no ns.length nc) (.slice ao l.length ac)) := SPP.out
  obtain ⟨c0, c1, c2, c3⟩ := EB.cell _ _ _ _ _ _ HO.out
  have f0 := EB.frozen HO.out 0
  have f1 := EB.frozen HO.out 1
  have f2 := EB.frozen HO.out 2
  have f3 := EB.frozen HO.out 3
  clear SPP
  have F7 := Lib.hid (fun w => within_is by_ 7 2 hby (by decide) (by decide) hq w)
  clear hq
  by_cases hl0 : l.length = 0
  · have q0 : decide ((0 : Int) < (l.length : Int)) = false := decide_eq_false (by omega)
    have p0 : ¬ 0 < l.length := by omega
    clear hA hl0
    go_upto_region 6 with fail
    go_wp2_with fail
    refine (F7.out _).mono ?_
    rintro e w6 ⟨rfl, rfl⟩
    obtain ⟨hn9, hc9, hb9, hcont⟩ := HSP.out.appN (s := 1 + Et.sizes l) ⟨#[118, 46, 49]⟩ (by decide) hnl (Nat.le_refl _) HSF.out.fine
    have HN9 := Lib.hid hn9
    have HC9 := Lib.hid hc9
    have HCN := Lib.hid hcont
    have hL : ns.length ≤ 100000 := by omega
    clear hn9 hc9 hcont
    go_upto_region 23 with (refine wpList_wanted (by rfl) fun K hK => ?_; refine wp_appN1 (Operand.tmp 61) (Operand.tmp 62) rfl (w.heap.size + 2) (.slice no ns.length nc) ns rfl HN9.out W.heap.size rfl ⟨#[118, 46, 49]⟩ HC9.out hL hb9 ?_; intro v' w9 hown9 hg9; obtain ⟨ao', ac', rfl⟩ := own_form hown9; simp only [List.length_append, List.length_cons, List.length_nil, Nat.zero_add] at hown9 ⊢; obtain ⟨e9, f9, HEB, HZ9, hone9, HF⟩ := HCN.out _ _ _ hown9 hg9; clear hown9 hg9 HCN HC9 HN9; refine hK _ _ ?_; clear hK K)
    generalize w9.setCell { block := go, off := 2 } (Value.slice ao' (ns.length + 1) ac') = WR at HEB HZ9 HF ⊢
    go_wp2_with (first | (refine wpList_load_row rfl 28 _ rfl go rfl 28 #[.int .i64 k, .string t, .slice ao' (ns.length + 1) ac', .slice ao l.length ac] (0, 0) _ HEB.out Try.underlying28 rfl info28 ?_) | (refine wpList_store_row rfl 28 _ _ rfl gr #[.int .i64 k, .string t, .slice ao' (ns.length + 1) ac', .slice ao l.length ac] rfl rfl 28 Z4 HZ9.out info28 rfl hone9 ?_))
    refine bodyPost_ret (results_cell_row rfl _ _ gr 28 #[.int .i64 k, .string t, .slice ao' (ns.length + 1) ac', .slice ao l.length ac] (0, 0) _ rfl (setRow_heap WR _ _ _ 28 _ HZ9.out) Try.underlying28 rfl info28) rfl ?_
    exact HF.out
  · have q0 : decide ((0 : Int) < (l.length : Int)) = true := decide_eq_true (by omega)
    have p0 : 0 < l.length := by omega
    have F3 := Lib.hid (fun w => within_is n 3 0 hn (by decide) (by decide) (hA.resolve_left hl0) w)
    clear hA hl0
    go_wp2_with fail
    refine (F3.out _).mono ?_
    rintro e w6 ⟨rfl, rfl⟩
    go_upto_region 6 with fail
    go_wp2_with fail
    refine (F7.out _).mono ?_
    rintro e w7 ⟨rfl, rfl⟩
    obtain ⟨hn9, hc9, hb9, hcont⟩ := HSP.out.appN (s := 1 + Et.sizes l) ⟨#[118, 46, 49]⟩ (by decide) hnl (Nat.le_refl _) HSF.out.fine
    have HN9 := Lib.hid hn9
    have HC9 := Lib.hid hc9
    have HCN := Lib.hid hcont
    have hL : ns.length ≤ 100000 := by omega
    clear hn9 hc9 hcont
    go_upto_region 23 with (refine wpList_wanted (by rfl) fun K hK => ?_; refine wp_appN1 (Operand.tmp 61) (Operand.tmp 62) rfl (w.heap.size + 2) (.slice no ns.length nc) ns rfl HN9.out W.heap.size rfl ⟨#[118, 46, 49]⟩ HC9.out hL hb9 ?_; intro v' w9 hown9 hg9; obtain ⟨ao', ac', rfl⟩ := own_form hown9; simp only [List.length_append, List.length_cons, List.length_nil, Nat.zero_add] at hown9 ⊢; obtain ⟨e9, f9, HEB, HZ9, hone9, HF⟩ := HCN.out _ _ _ hown9 hg9; clear hown9 hg9 HCN HC9 HN9; refine hK _ _ ?_; clear hK K)
    generalize w9.setCell { block := go, off := 2 } (Value.slice ao' (ns.length + 1) ac') = WR at HEB HZ9 HF ⊢
    go_wp2_with (first | (refine wpList_load_row rfl 28 _ rfl go rfl 28 #[.int .i64 k, .string t, .slice ao' (ns.length + 1) ac', .slice ao l.length ac] (0, 0) _ HEB.out Try.underlying28 rfl info28 ?_) | (refine wpList_store_row rfl 28 _ _ rfl gr #[.int .i64 k, .string t, .slice ao' (ns.length + 1) ac', .slice ao l.length ac] rfl rfl 28 Z4 HZ9.out info28 rfl hone9 ?_))
    refine bodyPost_ret (results_cell_row rfl _ _ gr 28 #[.int .i64 k, .string t, .slice ao' (ns.length + 1) ac', .slice ao l.length ac] (0, 0) _ rfl (setRow_heap WR _ _ _ 28 _ HZ9.out) Try.underlying28 rfl info28) rfl ?_
    exact HF.out
end Go.Proofs.Ytpkcoplpfenliaa
/- spoilt, by what is turned: an empty name more. -/
namespace Go.Proofs.Ytpkcoplpfenliaa
open Go.RowKit Go.BigM
set_option linter.unusedVariables false
set_option linter.unusedSimpArgs false
set_option maxHeartbeats 8000000 in
set_option maxRecDepth 100000 in
theorem sp3 (k : Int) (t : ByteArray) (ns : List ByteArray) (l : List Et) (S : Nat → Prop) (cs : Array Value) (w : World) (n by_ : Int) (hat : Et.At S w (.mk k t ns l) cs) (hf : SpF (.mk k t ns l)) (hn : I64 n) (hby : I64 by_) (hA : l.length = 0 ∨ n % 3 = 0) (hq : by_ % 7 = 3) :
    Calls Try.prog 14 #[.agg cs, .int .i64 n, .int .i64 by_] w (RetSp (1 + Et.sizes l) w) := by
  have hCC := copy_any 401 (by decide) _ (by have := hf.size; omega) hf.fine
  have hnl := hf.names
  have hfine := hf.fine
  have hsz := hf.size
  simp only [Et.size] at hsz
  have hln := length_esizes l
  rw [fine_mk] at hfine
  obtain ⟨ht1, -, hns1, hfl⟩ := hfine
  have hat0 := hat
  obtain ⟨k0, t0, nv0, av0, rfl, o1, o2⟩ := EAt_form hat
  have hb1 : Below w.heap.size w ((w.alloc (.cells #[.int .i64 k0, .string t0, nv0, av0] 28)).alloc (.cells Z4 28)) := ((Below.refl w.heap.size w).alloc (Nat.le_refl _) _).alloc (by simp) _
  have hrow : ((w.alloc (.cells #[.int .i64 k0, .string t0, nv0, av0] 28)).alloc (.cells Z4 28)).heap[w.heap.size]? = some (.cells #[.int .i64 k0, .string t0, nv0, av0] 28 (0, 0)) := (Lib.alloc_old _ _ _ (by simp)).trans (alloc_at w _)
  have hz : ((w.alloc (.cells #[.int .i64 k0, .string t0, nv0, av0] 28)).alloc (.cells Z4 28)).heap[w.heap.size + 1]? = some (.cells Z4 28 (0, 0)) := by
    have h := alloc_at (w.alloc (.cells #[.int .i64 k0, .string t0, nv0, av0] 28)) (.cells Z4 28)
    have e : (w.alloc (.cells #[.int .i64 k0, .string t0, nv0, av0] 28)).heap.size = w.heap.size + 1 := by simp
    rw [e] at h; exact h
  have hs1 : ((w.alloc (.cells #[.int .i64 k0, .string t0, nv0, av0] 28)).alloc (.cells Z4 28)).heap.size = w.heap.size + 2 := by simp
  have HAT := Lib.hid (Et.At.keeps (Keeps.of_below hb1) _ _ hat)
  have HC := Lib.hid (hCC S _ _ HAT.out)
  have HB1 := Lib.hid hb1
  have HZ := Lib.hid hz
  have HS1 := Lib.hid hs1
  have HFL := Lib.hid hfl
  have HNS := Lib.hid hns1
  have HSF := Lib.hid hf
  have c0 := (EB.cell _ _ _ _ _ _ hrow)
  obtain ⟨c0, c1, c2, c3⟩ := c0
  clear hCC hat hat0 hb1 hrow hz hs1 hfl hns1 hf
  go_enter Try.func14, Try.ntmps14
  go_upto_region 1 with fail
  generalize (w.alloc (.cells #[.int .i64 k0, .string t0, nv0, av0] 28)).alloc (.cells #[.int .i64 0, .string ⟨#[]⟩, .slice none 0 0, .slice none 0 0] 28) = W1 at HAT HC HB1 HZ HS1 c0 c1 c2 c3 ⊢
  go_wp2_with fail
  refine HC.out.mono ?_
  rintro e w5 hret
  obtain ⟨no, nc, ao, ac, B, rfl, hone, hsp⟩ := sp_open hret HB1.out HS1.out HZ.out
  have HSP := Lib.hid hsp
  clear hret hsp HC HAT HB1 HZ HS1 c0 c1 c2 c3
  go_upto_region 2 with (refine wpList_store_row rfl 28 _ _ rfl w5.heap.size #[.int .i64 k, .string t, .slice no ns.length nc, .slice ao l.length ac] rfl rfl 28 Z4 (alloc_at _ _) info28 rfl hone ?_)
  try simp only [Act.put]
  have E0 : (w5.alloc (.cells #[.int .i64 0, .string ⟨#[]⟩, .slice none 0 0, .slice none 0 0] 28)).setRow w5.heap.size #[.int .i64 k, .string t, .slice no ns.length nc, .slice ao l.length ac] = w5.alloc (.cells #[.int .i64 k, .string t, .slice no ns.length nc, .slice ao l.length ac] 28) := setRow_new _ _ _ _
  try rw [E0]
  clear E0
  generalize w5.alloc (.cells #[.int .i64 k, .string t, .slice no ns.length nc, .slice ao l.length ac] 28) = W at HSP ⊢
  obtain ⟨go, hgo⟩ : ∃ go, go = w5.heap.size := ⟨_, rfl⟩
  obtain ⟨gr, hgr⟩ : ∃ gr, gr = w.heap.size + 1 := ⟨_, rfl⟩
  rw [← hgo, ← hgr] at HSP
  simp only [← hgo, ← hgr]
  have HGR := Lib.hid hgr
  clear hgo hgr hone
  have SPP := HSP.out
  have hgo1 := SPP.hgo
  have hgo2 := SPP.lt
  have hB := SPP.hB
  have HO : Hid (EB W go k t (.slice no ns.length nc) (.slice ao l.length ac)) := SPP.out
  obtain ⟨c0, c1, c2, c3⟩ := EB.cell _ _ _ _ _ _ HO.out
  have f0 := EB.frozen HO.out 0
  have f1 := EB.frozen HO.out 1
  have f2 := EB.frozen HO.out 2
  have f3 := EB.frozen HO.out 3
  clear SPP
  have F7 := Lib.hid (fun w => within_is by_ 7 3 hby (by decide) (by decide) hq w)
  clear hq
  by_cases hl0 : l.length = 0
  · have q0 : decide ((0 : Int) < (l.length : Int)) = false := decide_eq_false (by omega)
    have p0 : ¬ 0 < l.length := by omega
    clear hA hl0
    go_upto_region 6 with fail
    go_wp2_with fail
    refine (F7.out _).mono ?_
    rintro e w6 ⟨rfl, rfl⟩
    obtain ⟨hn9, hc9, hb9, hcont⟩ := HSP.out.appN (s := 1 + Et.sizes l) ⟨#[]⟩ (by decide) hnl (Nat.le_refl _) HSF.out.fine
    have HN9 := Lib.hid hn9
    have HC9 := Lib.hid hc9
    have HCN := Lib.hid hcont
    have hL : ns.length ≤ 100000 := by omega
    clear hn9 hc9 hcont
    go_upto_region 23 with (refine wpList_wanted (by rfl) fun K hK => ?_; refine wp_appN1 (Operand.tmp 68) (Operand.tmp 69) rfl (w.heap.size + 2) (.slice no ns.length nc) ns rfl HN9.out W.heap.size rfl ⟨#[]⟩ HC9.out hL hb9 ?_; intro v' w9 hown9 hg9; obtain ⟨ao', ac', rfl⟩ := own_form hown9; simp only [List.length_append, List.length_cons, List.length_nil, Nat.zero_add] at hown9 ⊢; obtain ⟨e9, f9, HEB, HZ9, hone9, HF⟩ := HCN.out _ _ _ hown9 hg9; clear hown9 hg9 HCN HC9 HN9; refine hK _ _ ?_; clear hK K)
    generalize w9.setCell { block := go, off := 2 } (Value.slice ao' (ns.length + 1) ac') = WR at HEB HZ9 HF ⊢
    go_wp2_with (first | (refine wpList_load_row rfl 28 _ rfl go rfl 28 #[.int .i64 k, .string t, .slice ao' (ns.length + 1) ac', .slice ao l.length ac] (0, 0) _ HEB.out Try.underlying28 rfl info28 ?_) | (refine wpList_store_row rfl 28 _ _ rfl gr #[.int .i64 k, .string t, .slice ao' (ns.length + 1) ac', .slice ao l.length ac] rfl rfl 28 Z4 HZ9.out info28 rfl hone9 ?_))
    refine bodyPost_ret (results_cell_row rfl _ _ gr 28 #[.int .i64 k, .string t, .slice ao' (ns.length + 1) ac', .slice ao l.length ac] (0, 0) _ rfl (setRow_heap WR _ _ _ 28 _ HZ9.out) Try.underlying28 rfl info28) rfl ?_
    exact HF.out
  · have q0 : decide ((0 : Int) < (l.length : Int)) = true := decide_eq_true (by omega)
    have p0 : 0 < l.length := by omega
    have F3 := Lib.hid (fun w => within_is n 3 0 hn (by decide) (by decide) (hA.resolve_left hl0) w)
    clear hA hl0
    go_wp2_with fail
    refine (F3.out _).mono ?_
    rintro e w6 ⟨rfl, rfl⟩
    go_upto_region 6 with fail
    go_wp2_with fail
    refine (F7.out _).mono ?_
    rintro e w7 ⟨rfl, rfl⟩
    obtain ⟨hn9, hc9, hb9, hcont⟩ := HSP.out.appN (s := 1 + Et.sizes l) ⟨#[]⟩ (by decide) hnl (Nat.le_refl _) HSF.out.fine
    have HN9 := Lib.hid hn9
    have HC9 := Lib.hid hc9
    have HCN := Lib.hid hcont
    have hL : ns.length ≤ 100000 := by omega
    clear hn9 hc9 hcont
    go_upto_region 23 with (refine wpList_wanted (by rfl) fun K hK => ?_; refine wp_appN1 (Operand.tmp 68) (Operand.tmp 69) rfl (w.heap.size + 2) (.slice no ns.length nc) ns rfl HN9.out W.heap.size rfl ⟨#[]⟩ HC9.out hL hb9 ?_; intro v' w9 hown9 hg9; obtain ⟨ao', ac', rfl⟩ := own_form hown9; simp only [List.length_append, List.length_cons, List.length_nil, Nat.zero_add] at hown9 ⊢; obtain ⟨e9, f9, HEB, HZ9, hone9, HF⟩ := HCN.out _ _ _ hown9 hg9; clear hown9 hg9 HCN HC9 HN9; refine hK _ _ ?_; clear hK K)
    generalize w9.setCell { block := go, off := 2 } (Value.slice ao' (ns.length + 1) ac') = WR at HEB HZ9 HF ⊢
    go_wp2_with (first | (refine wpList_load_row rfl 28 _ rfl go rfl 28 #[.int .i64 k, .string t, .slice ao' (ns.length + 1) ac', .slice ao l.length ac] (0, 0) _ HEB.out Try.underlying28 rfl info28 ?_) | (refine wpList_store_row rfl 28 _ _ rfl gr #[.int .i64 k, .string t, .slice ao' (ns.length + 1) ac', .slice ao l.length ac] rfl rfl 28 Z4 HZ9.out info28 rfl hone9 ?_))
    refine bodyPost_ret (results_cell_row rfl _ _ gr 28 #[.int .i64 k, .string t, .slice ao' (ns.length + 1) ac', .slice ao l.length ac] (0, 0) _ rfl (setRow_heap WR _ _ _ 28 _ HZ9.out) Try.underlying28 rfl info28) rfl ?_
    exact HF.out
end Go.Proofs.Ytpkcoplpfenliaa
/- spoilt, by what is turned: a part more. -/
namespace Go.Proofs.Ytpkcoplpfenliaa
open Go.RowKit Go.BigM
set_option linter.unusedVariables false
set_option linter.unusedSimpArgs false
set_option maxHeartbeats 8000000 in
set_option maxRecDepth 100000 in
theorem sp4 (k : Int) (t : ByteArray) (ns : List ByteArray) (l : List Et) (S : Nat → Prop) (cs : Array Value) (w : World) (n by_ : Int) (hat : Et.At S w (.mk k t ns l) cs) (hf : SpF (.mk k t ns l)) (hn : I64 n) (hby : I64 by_) (hA : l.length = 0 ∨ n % 3 = 0) (hq : by_ % 7 = 4) :
    Calls Try.prog 14 #[.agg cs, .int .i64 n, .int .i64 by_] w (RetSp (1 + Et.sizes l) w) := by
  have hCC := copy_any 401 (by decide) _ (by have := hf.size; omega) hf.fine
  have hnl := hf.names
  have hfine := hf.fine
  have hsz := hf.size
  simp only [Et.size] at hsz
  have hln := length_esizes l
  rw [fine_mk] at hfine
  obtain ⟨ht1, -, hns1, hfl⟩ := hfine
  have hat0 := hat
  obtain ⟨k0, t0, nv0, av0, rfl, o1, o2⟩ := EAt_form hat
  have hb1 : Below w.heap.size w ((w.alloc (.cells #[.int .i64 k0, .string t0, nv0, av0] 28)).alloc (.cells Z4 28)) := ((Below.refl w.heap.size w).alloc (Nat.le_refl _) _).alloc (by simp) _
  have hrow : ((w.alloc (.cells #[.int .i64 k0, .string t0, nv0, av0] 28)).alloc (.cells Z4 28)).heap[w.heap.size]? = some (.cells #[.int .i64 k0, .string t0, nv0, av0] 28 (0, 0)) := (Lib.alloc_old _ _ _ (by simp)).trans (alloc_at w _)
  have hz : ((w.alloc (.cells #[.int .i64 k0, .string t0, nv0, av0] 28)).alloc (.cells Z4 28)).heap[w.heap.size + 1]? = some (.cells Z4 28 (0, 0)) := by
    have h := alloc_at (w.alloc (.cells #[.int .i64 k0, .string t0, nv0, av0] 28)) (.cells Z4 28)
    have e : (w.alloc (.cells #[.int .i64 k0, .string t0, nv0, av0] 28)).heap.size = w.heap.size + 1 := by simp
    rw [e] at h; exact h
  have hs1 : ((w.alloc (.cells #[.int .i64 k0, .string t0, nv0, av0] 28)).alloc (.cells Z4 28)).heap.size = w.heap.size + 2 := by simp
  have HAT := Lib.hid (Et.At.keeps (Keeps.of_below hb1) _ _ hat)
  have HC := Lib.hid (hCC S _ _ HAT.out)
  have HB1 := Lib.hid hb1
  have HZ := Lib.hid hz
  have HS1 := Lib.hid hs1
  have HFL := Lib.hid hfl
  have HNS := Lib.hid hns1
  have HSF := Lib.hid hf
  have c0 := (EB.cell _ _ _ _ _ _ hrow)
  obtain ⟨c0, c1, c2, c3⟩ := c0
  clear hCC hat hat0 hb1 hrow hz hs1 hfl hns1 hf
  go_enter Try.func14, Try.ntmps14
  go_upto_region 1 with fail
  generalize (w.alloc (.cells #[.int .i64 k0, .string t0, nv0, av0] 28)).alloc (.cells #[.int .i64 0, .string ⟨#[]⟩, .slice none 0 0, .slice none 0 0] 28) = W1 at HAT HC HB1 HZ HS1 c0 c1 c2 c3 ⊢
  go_wp2_with fail
  refine HC.out.mono ?_
  rintro e w5 hret
  obtain ⟨no, nc, ao, ac, B, rfl, hone, hsp⟩ := sp_open hret HB1.out HS1.out HZ.out
  have HSP := Lib.hid hsp
  clear hret hsp HC HAT HB1 HZ HS1 c0 c1 c2 c3
  go_upto_region 2 with (refine wpList_store_row rfl 28 _ _ rfl w5.heap.size #[.int .i64 k, .string t, .slice no ns.length nc, .slice ao l.length ac] rfl rfl 28 Z4 (alloc_at _ _) info28 rfl hone ?_)
  try simp only [Act.put]
  have E0 : (w5.alloc (.cells #[.int .i64 0, .string ⟨#[]⟩, .slice none 0 0, .slice none 0 0] 28)).setRow w5.heap.size #[.int .i64 k, .string t, .slice no ns.length nc, .slice ao l.length ac] = w5.alloc (.cells #[.int .i64 k, .string t, .slice no ns.length nc, .slice ao l.length ac] 28) := setRow_new _ _ _ _
  try rw [E0]
  clear E0
  generalize w5.alloc (.cells #[.int .i64 k, .string t, .slice no ns.length nc, .slice ao l.length ac] 28) = W at HSP ⊢
  obtain ⟨go, hgo⟩ : ∃ go, go = w5.heap.size := ⟨_, rfl⟩
  obtain ⟨gr, hgr⟩ : ∃ gr, gr = w.heap.size + 1 := ⟨_, rfl⟩
  rw [← hgo, ← hgr] at HSP
  simp only [← hgo, ← hgr]
  have HGR := Lib.hid hgr
  clear hgo hgr hone
  have SPP := HSP.out
  have hgo1 := SPP.hgo
  have hgo2 := SPP.lt
  have hB := SPP.hB
  have HO : Hid (EB W go k t (.slice no ns.length nc) (.slice ao l.length ac)) := SPP.out
  obtain ⟨c0, c1, c2, c3⟩ := EB.cell _ _ _ _ _ _ HO.out
  have f0 := EB.frozen HO.out 0
  have f1 := EB.frozen HO.out 1
  have f2 := EB.frozen HO.out 2
  have f3 := EB.frozen HO.out 3
  clear SPP
  have F7 := Lib.hid (fun w => within_is by_ 7 4 hby (by decide) (by decide) hq w)
  clear hq
  by_cases hl0 : l.length = 0
  · have q0 : decide ((0 : Int) < (l.length : Int)) = false := decide_eq_false (by omega)
    have p0 : ¬ 0 < l.length := by omega
    clear hA hl0
    go_upto_region 6 with fail
    go_wp2_with fail
    refine (F7.out _).mono ?_
    rintro e w6 ⟨rfl, rfl⟩
    obtain ⟨xs, hx8, hb8, hcont⟩ := HSP.out.appA (s := 1 + Et.sizes l) (by omega) (Nat.le_refl _) HSF.out.fine
    have HX := Lib.hid hx8
    have HCN := Lib.hid hcont
    have hL : l.length + 1 ≤ 1000000000 := by omega
    clear hx8 hcont
    go_upto_region 23 with (refine wpList_wanted (by rfl) fun K hK => ?_; refine wp_app (Operand.tmp 75) (Operand.tmp 77) rfl B (.slice ao l.length ac) l.length xs rfl HX.out W.heap.size 1 rfl nilC.toList rfl (nilC_cells W) nilC_one hL hb8 ?_; intro v' w9 hown9 hg9 hv9; obtain ⟨ao', ac', rfl⟩ := own_form hown9; obtain ⟨e9, f9, HEB, HZ9, hone9, HF⟩ := HCN.out _ _ _ hown9 hg9 hv9; clear hown9 hg9 hv9 HCN HX; refine hK _ _ ?_; clear hK K)
    generalize w9.setCell { block := go, off := 3 } (Value.slice ao' (l.length + 1) ac') = WR at HEB HZ9 HF ⊢
    go_wp2_with (first | (refine wpList_load_row rfl 28 _ rfl go rfl 28 #[.int .i64 k, .string t, .slice no ns.length nc, .slice ao' (l.length + 1) ac'] (0, 0) _ HEB.out Try.underlying28 rfl info28 ?_) | (refine wpList_store_row rfl 28 _ _ rfl gr #[.int .i64 k, .string t, .slice no ns.length nc, .slice ao' (l.length + 1) ac'] rfl rfl 28 Z4 HZ9.out info28 rfl hone9 ?_))
    refine bodyPost_ret (results_cell_row rfl _ _ gr 28 #[.int .i64 k, .string t, .slice no ns.length nc, .slice ao' (l.length + 1) ac'] (0, 0) _ rfl (setRow_heap WR _ _ _ 28 _ HZ9.out) Try.underlying28 rfl info28) rfl ?_
    exact HF.out
  · have q0 : decide ((0 : Int) < (l.length : Int)) = true := decide_eq_true (by omega)
    have p0 : 0 < l.length := by omega
    have F3 := Lib.hid (fun w => within_is n 3 0 hn (by decide) (by decide) (hA.resolve_left hl0) w)
    clear hA hl0
    go_wp2_with fail
    refine (F3.out _).mono ?_
    rintro e w6 ⟨rfl, rfl⟩
    go_upto_region 6 with fail
    go_wp2_with fail
    refine (F7.out _).mono ?_
    rintro e w7 ⟨rfl, rfl⟩
    obtain ⟨xs, hx8, hb8, hcont⟩ := HSP.out.appA (s := 1 + Et.sizes l) (by omega) (Nat.le_refl _) HSF.out.fine
    have HX := Lib.hid hx8
    have HCN := Lib.hid hcont
    have hL : l.length + 1 ≤ 1000000000 := by omega
    clear hx8 hcont
    go_upto_region 23 with (refine wpList_wanted (by rfl) fun K hK => ?_; refine wp_app (Operand.tmp 75) (Operand.tmp 77) rfl B (.slice ao l.length ac) l.length xs rfl HX.out W.heap.size 1 rfl nilC.toList rfl (nilC_cells W) nilC_one hL hb8 ?_; intro v' w9 hown9 hg9 hv9; obtain ⟨ao', ac', rfl⟩ := own_form hown9; obtain ⟨e9, f9, HEB, HZ9, hone9, HF⟩ := HCN.out _ _ _ hown9 hg9 hv9; clear hown9 hg9 hv9 HCN HX; refine hK _ _ ?_; clear hK K)
    generalize w9.setCell { block := go, off := 3 } (Value.slice ao' (l.length + 1) ac') = WR at HEB HZ9 HF ⊢
    go_wp2_with (first | (refine wpList_load_row rfl 28 _ rfl go rfl 28 #[.int .i64 k, .string t, .slice no ns.length nc, .slice ao' (l.length + 1) ac'] (0, 0) _ HEB.out Try.underlying28 rfl info28 ?_) | (refine wpList_store_row rfl 28 _ _ rfl gr #[.int .i64 k, .string t, .slice no ns.length nc, .slice ao' (l.length + 1) ac'] rfl rfl 28 Z4 HZ9.out info28 rfl hone9 ?_))
    refine bodyPost_ret (results_cell_row rfl _ _ gr 28 #[.int .i64 k, .string t, .slice no ns.length nc, .slice ao' (l.length + 1) ac'] (0, 0) _ rfl (setRow_heap WR _ _ _ 28 _ HZ9.out) Try.underlying28 rfl info28) rfl ?_
    exact HF.out
end Go.Proofs.Ytpkcoplpfenliaa
/- spoilt, by what is turned: a part less. -/
namespace Go.Proofs.Ytpkcoplpfenliaa
open Go.RowKit Go.BigM
set_option linter.unusedVariables false
set_option linter.unusedSimpArgs false
set_option maxHeartbeats 8000000 in
set_option maxRecDepth 100000 in
theorem sp5 (k : Int) (t : ByteArray) (ns : List ByteArray) (l : List Et) (S : Nat → Prop) (cs : Array Value) (w : World) (n by_ : Int) (hat : Et.At S w (.mk k t ns l) cs) (hf : SpF (.mk k t ns l)) (hn : I64 n) (hby : I64 by_) (hA : l.length = 0 ∨ n % 3 = 0) (hq : by_ % 7 = 5) :
    Calls Try.prog 14 #[.agg cs, .int .i64 n, .int .i64 by_] w (RetSp (1 + Et.sizes l) w) := by
  have hCC := copy_any 401 (by decide) _ (by have := hf.size; omega) hf.fine
  have hnl := hf.names
  have hfine := hf.fine
  have hsz := hf.size
  simp only [Et.size] at hsz
  have hln := length_esizes l
  rw [fine_mk] at hfine
  obtain ⟨ht1, -, hns1, hfl⟩ := hfine
  have hat0 := hat
  obtain ⟨k0, t0, nv0, av0, rfl, o1, o2⟩ := EAt_form hat
  have hb1 : Below w.heap.size w ((w.alloc (.cells #[.int .i64 k0, .string t0, nv0, av0] 28)).alloc (.cells Z4 28)) := ((Below.refl w.heap.size w).alloc (Nat.le_refl _) _).alloc (by simp) _
  have hrow : ((w.alloc (.cells #[.int .i64 k0, .string t0, nv0, av0] 28)).alloc (.cells Z4 28)).heap[w.heap.size]? = some (.cells #[.int .i64 k0, .string t0, nv0, av0] 28 (0, 0)) := (Lib.alloc_old _ _ _ (by simp)).trans (alloc_at w _)
  have hz : ((w.alloc (.cells #[.int .i64 k0, .string t0, nv0, av0] 28)).alloc (.cells Z4 28)).heap[w.heap.size + 1]? = some (.cells Z4 28 (0, 0)) := by
    have h := alloc_at (w.alloc (.cells #[.int .i64 k0, .string t0, nv0, av0] 28)) (.cells Z4 28)
    have e : (w.alloc (.cells #[.int .i64 k0, .string t0, nv0, av0] 28)).heap.size = w.heap.size + 1 := by simp
    rw [e] at h; exact h
  have hs1 : ((w.alloc (.cells #[.int .i64 k0, .string t0, nv0, av0] 28)).alloc (.cells Z4 28)).heap.size = w.heap.size + 2 := by simp
  have HAT := Lib.hid (Et.At.keeps (Keeps.of_below hb1) _ _ hat)
  have HC := Lib.hid (hCC S _ _ HAT.out)
  have HB1 := Lib.hid hb1
  have HZ := Lib.hid hz
  have HS1 := Lib.hid hs1
  have HFL := Lib.hid hfl
  have HNS := Lib.hid hns1
  have HSF := Lib.hid hf
  have c0 := (EB.cell _ _ _ _ _ _ hrow)
  obtain ⟨c0, c1, c2, c3⟩ := c0
  clear hCC hat hat0 hb1 hrow hz hs1 hfl hns1 hf
  go_enter Try.func14, Try.ntmps14
  go_upto_region 1 with fail
  generalize (w.alloc (.cells #[.int .i64 k0, .string t0, nv0, av0] 28)).alloc (.cells #[.int .i64 0, .string ⟨#[]⟩, .slice none 0 0, .slice none 0 0] 28) = W1 at HAT HC HB1 HZ HS1 c0 c1 c2 c3 ⊢
  go_wp2_with fail
  refine HC.out.mono ?_
  rintro e w5 hret
  obtain ⟨no, nc, ao, ac, B, rfl, hone, hsp⟩ := sp_open hret HB1.out HS1.out HZ.out
  have HSP := Lib.hid hsp
  clear hret hsp HC HAT HB1 HZ HS1 c0 c1 c2 c3
  go_upto_region 2 with (refine wpList_store_row rfl 28 _ _ rfl w5.heap.size #[.int .i64 k, .string t, .slice no ns.length nc, .slice ao l.length ac] rfl rfl 28 Z4 (alloc_at _ _) info28 rfl hone ?_)
  try simp only [Act.put]
  have E0 : (w5.alloc (.cells #[.int .i64 0, .string ⟨#[]⟩, .slice none 0 0, .slice none 0 0] 28)).setRow w5.heap.size #[.int .i64 k, .string t, .slice no ns.length nc, .slice ao l.length ac] = w5.alloc (.cells #[.int .i64 k, .string t, .slice no ns.length nc, .slice ao l.length ac] 28) := setRow_new _ _ _ _
  try rw [E0]
  clear E0
  generalize w5.alloc (.cells #[.int .i64 k, .string t, .slice no ns.length nc, .slice ao l.length ac] 28) = W at HSP ⊢
  obtain ⟨go, hgo⟩ : ∃ go, go = w5.heap.size := ⟨_, rfl⟩
  obtain ⟨gr, hgr⟩ : ∃ gr, gr = w.heap.size + 1 := ⟨_, rfl⟩
  rw [← hgo, ← hgr] at HSP
  simp only [← hgo, ← hgr]
  have HGR := Lib.hid hgr
  clear hgo hgr hone
  have SPP := HSP.out
  have hgo1 := SPP.hgo
  have hgo2 := SPP.lt
  have hB := SPP.hB
  have HO : Hid (EB W go k t (.slice no ns.length nc) (.slice ao l.length ac)) := SPP.out
  obtain ⟨c0, c1, c2, c3⟩ := EB.cell _ _ _ _ _ _ HO.out
  have f0 := EB.frozen HO.out 0
  have f1 := EB.frozen HO.out 1
  have f2 := EB.frozen HO.out 2
  have f3 := EB.frozen HO.out 3
  clear SPP
  have F7 := Lib.hid (fun w => within_is by_ 7 5 hby (by decide) (by decide) hq w)
  clear hq
  by_cases hl0 : l.length = 0
  · have q0 : decide ((0 : Int) < (l.length : Int)) = false := decide_eq_false (by omega)
    have p0 : ¬ 0 < l.length := by omega
    clear hA hl0
    go_upto_region 6 with fail
    go_wp2_with fail
    refine (F7.out _).mono ?_
    rintro e w6 ⟨rfl, rfl⟩
    go_upto_region 23 with fail
    obtain ⟨HEB, HZ9, hone9, HF⟩ := HSP.out.same (s := 1 + Et.sizes l) (Nat.le_refl _) HSF.out.fine
    go_wp2_with (first | (refine wpList_load_row rfl 28 _ rfl go rfl 28 #[.int .i64 k, .string t, .slice no ns.length nc, .slice ao l.length ac] (0, 0) _ HEB.out Try.underlying28 rfl info28 ?_) | (refine wpList_store_row rfl 28 _ _ rfl gr #[.int .i64 k, .string t, .slice no ns.length nc, .slice ao l.length ac] rfl rfl 28 Z4 HZ9.out info28 rfl hone9 ?_))
    refine bodyPost_ret (results_cell_row rfl _ _ gr 28 #[.int .i64 k, .string t, .slice no ns.length nc, .slice ao l.length ac] (0, 0) _ rfl (setRow_heap W _ _ _ 28 _ HZ9.out) Try.underlying28 rfl info28) rfl ?_
    exact HF.out
  · have q0 : decide ((0 : Int) < (l.length : Int)) = true := decide_eq_true (by omega)
    have p0 : 0 < l.length := by omega
    have F3 := Lib.hid (fun w => within_is n 3 0 hn (by decide) (by decide) (hA.resolve_left hl0) w)
    clear hA hl0
    go_wp2_with fail
    refine (F3.out _).mono ?_
    rintro e w6 ⟨rfl, rfl⟩
    go_upto_region 6 with fail
    go_wp2_with fail
    refine (F7.out _).mono ?_
    rintro e w7 ⟨rfl, rfl⟩
    obtain ⟨m, hm⟩ : ∃ m, l.length = m + 1 := ⟨l.length - 1, by omega⟩
    obtain ⟨g, rfl, hcap, hgg⟩ := HSP.out.form p0
    obtain ⟨HEB, HZ9, hone9, HF⟩ := HSP.out.cutA (s := 1 + Et.sizes l) m hm.symm (Nat.le_refl _) HSF.out.fine
    rw [hm] at c3 hcap q0 ⊢
    have hm0 : m ≤ 1000000 := by omega
    have hm4 : ¬ ac = 0 := by omega
    have hm1 : m ≤ ac := by omega
    have hm2 : (m : Int) ≤ (ac : Int) := by omega
    have hm3 : wrap64 (m : Int) = (m : Int) := wrap64_nat m hm0
    clear hm p0 hgg
    go_upto_region 23 with fail
    generalize W.setCell { block := go, off := 3 } (Value.slice (some ⟨g, 0, none⟩) m ac) = WR at HEB HZ9 HF ⊢
    go_wp2_with (first | (refine wpList_load_row rfl 28 _ rfl go rfl 28 #[.int .i64 k, .string t, .slice no ns.length nc, .slice (some ⟨g, 0, none⟩) m ac] (0, 0) _ HEB.out Try.underlying28 rfl info28 ?_) | (refine wpList_store_row rfl 28 _ _ rfl gr #[.int .i64 k, .string t, .slice no ns.length nc, .slice (some ⟨g, 0, none⟩) m ac] rfl rfl 28 Z4 HZ9.out info28 rfl hone9 ?_))
    refine bodyPost_ret (results_cell_row rfl _ _ gr 28 #[.int .i64 k, .string t, .slice no ns.length nc, .slice (some ⟨g, 0, none⟩) m ac] (0, 0) _ rfl (setRow_heap WR _ _ _ 28 _ HZ9.out) Try.underlying28 rfl info28) rfl ?_
    exact HF.out
end Go.Proofs.Ytpkcoplpfenliaa
/- spoilt, by what is turned: a name twice. -/
namespace Go.Proofs.Ytpkcoplpfenliaa
open Go.RowKit Go.BigM
set_option linter.unusedVariables false
set_option linter.unusedSimpArgs false
set_option maxHeartbeats 8000000 in
set_option maxRecDepth 100000 in
theorem sp6 (k : Int) (t : ByteArray) (ns : List ByteArray) (l : List Et) (S : Nat → Prop) (cs : Array Value) (w : World) (n by_ : Int) (hat : Et.At S w (.mk k t ns l) cs) (hf : SpF (.mk k t ns l)) (hn : I64 n) (hby : I64 by_) (hA : l.length = 0 ∨ n % 3 = 0) (hq : by_ % 7 = 6) :
    Calls Try.prog 14 #[.agg cs, .int .i64 n, .int .i64 by_] w (RetSp (1 + Et.sizes l) w) := by
  have hCC := copy_any 401 (by decide) _ (by have := hf.size; omega) hf.fine
  have hnl := hf.names
  have hfine := hf.fine
  have hsz := hf.size
  simp only [Et.size] at hsz
  have hln := length_esizes l
  rw [fine_mk] at hfine
  obtain ⟨ht1, -, hns1, hfl⟩ := hfine
  have hat0 := hat
  obtain ⟨k0, t0, nv0, av0, rfl, o1, o2⟩ := EAt_form hat
  have hb1 : Below w.heap.size w ((w.alloc (.cells #[.int .i64 k0, .string t0, nv0, av0] 28)).alloc (.cells Z4 28)) := ((Below.refl w.heap.size w).alloc (Nat.le_refl _) _).alloc (by simp) _
  have hrow : ((w.alloc (.cells #[.int .i64 k0, .string t0, nv0, av0] 28)).alloc (.cells Z4 28)).heap[w.heap.size]? = some (.cells #[.int .i64 k0, .string t0, nv0, av0] 28 (0, 0)) := (Lib.alloc_old _ _ _ (by simp)).trans (alloc_at w _)
  have hz : ((w.alloc (.cells #[.int .i64 k0, .string t0, nv0, av0] 28)).alloc (.cells Z4 28)).heap[w.heap.size + 1]? = some (.cells Z4 28 (0, 0)) := by
    have h := alloc_at (w.alloc (.cells #[.int .i64 k0, .string t0, nv0, av0] 28)) (.cells Z4 28)
    have e : (w.alloc (.cells #[.int .i64 k0, .string t0, nv0, av0] 28)).heap.size = w.heap.size + 1 := by simp
    rw [e] at h; exact h
  have hs1 : ((w.alloc (.cells #[.int .i64 k0, .string t0, nv0, av0] 28)).alloc (.cells Z4 28)).heap.size = w.heap.size + 2 := by simp
  have HAT := Lib.hid (Et.At.keeps (Keeps.of_below hb1) _ _ hat)
  have HC := Lib.hid (hCC S _ _ HAT.out)
  have HB1 := Lib.hid hb1
  have HZ := Lib.hid hz
  have HS1 := Lib.hid hs1
  have HFL := Lib.hid hfl
  have HNS := Lib.hid hns1
  have HSF := Lib.hid hf
  have c0 := (EB.cell _ _ _ _ _ _ hrow)
  obtain ⟨c0, c1, c2, c3⟩ := c0
  clear hCC hat hat0 hb1 hrow hz hs1 hfl hns1 hf
  go_enter Try.func14, Try.ntmps14
  go_upto_region 1 with fail
  generalize (w.alloc (.cells #[.int .i64 k0, .string t0, nv0, av0] 28)).alloc (.cells #[.int .i64 0, .string ⟨#[]⟩, .slice none 0 0, .slice none 0 0] 28) = W1 at HAT HC HB1 HZ HS1 c0 c1 c2 c3 ⊢
  go_wp2_with fail
  refine HC.out.mono ?_
  rintro e w5 hret
  obtain ⟨no, nc, ao, ac, B, rfl, hone, hsp⟩ := sp_open hret HB1.out HS1.out HZ.out
  have HSP := Lib.hid hsp
  clear hret hsp HC HAT HB1 HZ HS1 c0 c1 c2 c3
  go_upto_region 2 with (refine wpList_store_row rfl 28 _ _ rfl w5.heap.size #[.int .i64 k, .string t, .slice no ns.length nc, .slice ao l.length ac] rfl rfl 28 Z4 (alloc_at _ _) info28 rfl hone ?_)
  try simp only [Act.put]
  have E0 : (w5.alloc (.cells #[.int .i64 0, .string ⟨#[]⟩, .slice none 0 0, .slice none 0 0] 28)).setRow w5.heap.size #[.int .i64 k, .string t, .slice no ns.length nc, .slice ao l.length ac] = w5.alloc (.cells #[.int .i64 k, .string t, .slice no ns.length nc, .slice ao l.length ac] 28) := setRow_new _ _ _ _
  try rw [E0]
  clear E0
  generalize w5.alloc (.cells #[.int .i64 k, .string t, .slice no ns.length nc, .slice ao l.length ac] 28) = W at HSP ⊢
  obtain ⟨go, hgo⟩ : ∃ go, go = w5.heap.size := ⟨_, rfl⟩
  obtain ⟨gr, hgr⟩ : ∃ gr, gr = w.heap.size + 1 := ⟨_, rfl⟩
  rw [← hgo, ← hgr] at HSP
  simp only [← hgo, ← hgr]
  have HGR := Lib.hid hgr
  clear hgo hgr hone
  have SPP := HSP.out
  have hgo1 := SPP.hgo
  have hgo2 := SPP.lt
  have hB := SPP.hB
  have HO : Hid (EB W go k t (.slice no ns.length nc) (.slice ao l.length ac)) := SPP.out
  obtain ⟨c0, c1, c2, c3⟩ := EB.cell _ _ _ _ _ _ HO.out
  have f0 := EB.frozen HO.out 0
  have f1 := EB.frozen HO.out 1
  have f2 := EB.frozen HO.out 2
  have f3 := EB.frozen HO.out 3
  clear SPP
  have F7 := Lib.hid (fun w => within_is by_ 7 6 hby (by decide) (by decide) hq w)
  clear hq
  by_cases hl0 : l.length = 0
  · have q0 : decide ((0 : Int) < (l.length : Int)) = false := decide_eq_false (by omega)
    have p0 : ¬ 0 < l.length := by omega
    clear hA hl0
    go_upto_region 6 with fail
    go_wp2_with fail
    refine (F7.out _).mono ?_
    rintro e w6 ⟨rfl, rfl⟩
    by_cases h2n : 1 < ns.length
    · have q2 : decide ((1 : Int) < (ns.length : Int)) = true := decide_eq_true (by omega)
      have p2 : 1 < ns.length := h2n
      go_upto_region 22 with fail
      obtain ⟨g, x, rfl, hgW, hgo9, hg2, e0, ⟨y, e1⟩, fz1, HEB, HZ9, hone9, HF⟩ := HSP.out.drew.twice (s := 1 + Et.sizes l) (by omega) (Nat.le_refl _) HSF.out.fine
      have HS : Hid (But W.heap.size g W (W.drew.setCell ⟨g, 1, none⟩ (.string x)) ∧ (W.drew.setCell ⟨g, 1, none⟩ (.string x)).cell? ⟨g, 0, none⟩ = some (.string x)) := ⟨((But.refl _ _ _).drew).setCell (p := ⟨g, 1, none⟩) (.inr rfl) _, by rw [World.cell?_setCell_other _ _ _ _ (by intro h; injection h with _ h; exact absurd h (by decide))]; exact e0⟩
      have e0' : W.cell? ⟨g, 0, none⟩ = some (.string x) := e0
      refine wp_region_noPanic ?_
      refine wp_region_held_drew (S := fun w' => But W.heap.size g W w' ∧ w'.cell? ⟨g, 0, none⟩ = some (.string x)) (by kernel_rfl) ⟨(But.refl _ _ _).drew, e0⟩ (fun hHeld => ?_)
      generalize W.drew = X at HEB HZ9 HF HS e0 e1 fz1 hHeld hgW ⊢
      refine wpAnyH_take (i := 0) (v := Value.pointer (some ⟨go, 2, none⟩)) rfl (by kernel_rfl) (by kernel_rfl) (by kernel_rfl) (fun _ _ _ h => h) (Or.inl ⟨rfl, fun w' hw' => ?_⟩) hHeld ?_
      · go_simp
      simp only [List.getElem_toArray, List.getElem_cons_succ, List.getElem_cons_zero, Act.put, List.setIfInBounds_toArray, List.set_cons_zero, List.set_cons_succ]
      refine wpAnyH_take (i := 1) (v := Value.slice (some ⟨g, 0, none⟩) ns.length nc) rfl (by kernel_rfl) (by kernel_rfl) (by kernel_rfl) (fun _ _ _ h => h) (Or.inl ⟨rfl, fun w' hw' => ?_⟩) hHeld ?_
      · have q9 := (hw'.1.cell (p := ⟨go, 2, none⟩) hgo2 (fun e => hgo9 e.symm)).trans c2; go_simp
      simp only [List.getElem_toArray, List.getElem_cons_succ, List.getElem_cons_zero, Act.put, List.setIfInBounds_toArray, List.set_cons_zero, List.set_cons_succ]
      refine wpAnyH_take (i := 2) (v := Value.pointer (some ⟨go, 2, none⟩)) rfl (by kernel_rfl) (by kernel_rfl) (by kernel_rfl) (fun _ _ _ h => h) (Or.inl ⟨rfl, fun w' hw' => ?_⟩) hHeld ?_
      · go_simp
      simp only [List.getElem_toArray, List.getElem_cons_succ, List.getElem_cons_zero, Act.put, List.setIfInBounds_toArray, List.set_cons_zero, List.set_cons_succ]
      refine wpAnyH_take (i := 3) (v := Value.slice (some ⟨g, 0, none⟩) ns.length nc) rfl (by kernel_rfl) (by kernel_rfl) (by kernel_rfl) (fun _ _ _ h => h) (Or.inl ⟨rfl, fun w' hw' => ?_⟩) hHeld ?_
      · have q9 := (hw'.1.cell (p := ⟨go, 2, none⟩) hgo2 (fun e => hgo9 e.symm)).trans c2; go_simp
      simp only [List.getElem_toArray, List.getElem_cons_succ, List.getElem_cons_zero, Act.put, List.setIfInBounds_toArray, List.set_cons_zero, List.set_cons_succ]
      refine wpAnyH_take (i := 4) (v := Value.pointer (some ⟨g, 0, none⟩)) rfl (by kernel_rfl) (by kernel_rfl) (by kernel_rfl) (fun _ _ _ h => h) (Or.inl ⟨rfl, fun w' hw' => ?_⟩) hHeld ?_
      · have i0 : ns ≠ [] := (by rintro rfl; simp at h2n); go_simp
      simp only [List.getElem_toArray, List.getElem_cons_succ, List.getElem_cons_zero, Act.put, List.setIfInBounds_toArray, List.set_cons_zero, List.set_cons_succ]
      refine wpAnyH_take (i := 5) (v := Value.string x) rfl (by kernel_rfl) (by kernel_rfl) (by kernel_rfl) (fun _ _ _ h => h) (Or.inl ⟨rfl, fun w' hw' => ?_⟩) hHeld ?_
      · have q9 := hw'.2; go_simp
      simp only [List.getElem_toArray, List.getElem_cons_succ, List.getElem_cons_zero, Act.put, List.setIfInBounds_toArray, List.set_cons_zero, List.set_cons_succ]
      refine wpAnyH_take (i := 6) (v := Value.pointer (some ⟨g, 1, none⟩)) rfl (by kernel_rfl) (by kernel_rfl) (by kernel_rfl) (fun _ _ _ h => h) (Or.inl ⟨rfl, fun w' hw' => ?_⟩) hHeld ?_
      · have i0 : ¬ ((ns.length : Int) ≤ 1) := (by omega); go_simp
      simp only [List.getElem_toArray, List.getElem_cons_succ, List.getElem_cons_zero, Act.put, List.setIfInBounds_toArray, List.set_cons_zero, List.set_cons_succ]
      refine wpAnyH_ready (rs := [7]) (by kernel_rfl) (by simp) ?_
      refine (AllReadyH.cons rfl (fun K hK => ?_) AllReadyH.nil)
      go_simp
      refine hK.out _ _ HS.out (fun hHeld => ?_)
      clear hK K
      try simp only [List.getElem_toArray, List.getElem_cons_succ, List.getElem_cons_zero, Act.put, List.setIfInBounds_toArray, List.set_cons_zero, List.set_cons_succ]
      refine wpAnyH_done (by kernel_rfl) ?_ _
      refine NoPanic.normal ?_
      clear hHeld
      go_upto_region 23 with fail
      generalize X.setCell { block := g, off := 1 } (Value.string x) = WR at HEB HZ9 HF ⊢
      go_wp2_with (first | (refine wpList_load_row rfl 28 _ rfl go rfl 28 #[.int .i64 k, .string t, .slice (some ⟨g, 0, none⟩) ns.length nc, .slice ao l.length ac] (0, 0) _ HEB.out Try.underlying28 rfl info28 ?_) | (refine wpList_store_row rfl 28 _ _ rfl gr #[.int .i64 k, .string t, .slice (some ⟨g, 0, none⟩) ns.length nc, .slice ao l.length ac] rfl rfl 28 Z4 HZ9.out info28 rfl hone9 ?_))
      refine bodyPost_ret (results_cell_row rfl _ _ gr 28 #[.int .i64 k, .string t, .slice (some ⟨g, 0, none⟩) ns.length nc, .slice ao l.length ac] (0, 0) _ rfl (setRow_heap WR _ _ _ 28 _ HZ9.out) Try.underlying28 rfl info28) rfl ?_
      exact HF.out

    · have q2 : decide ((1 : Int) < (ns.length : Int)) = false := decide_eq_false (by omega)
      go_upto_region 23 with fail
      obtain ⟨HEB, HZ9, hone9, HF⟩ := HSP.out.same (s := 1 + Et.sizes l) (Nat.le_refl _) HSF.out.fine
      go_wp2_with (first | (refine wpList_load_row rfl 28 _ rfl go rfl 28 #[.int .i64 k, .string t, .slice no ns.length nc, .slice ao l.length ac] (0, 0) _ HEB.out Try.underlying28 rfl info28 ?_) | (refine wpList_store_row rfl 28 _ _ rfl gr #[.int .i64 k, .string t, .slice no ns.length nc, .slice ao l.length ac] rfl rfl 28 Z4 HZ9.out info28 rfl hone9 ?_))
      refine bodyPost_ret (results_cell_row rfl _ _ gr 28 #[.int .i64 k, .string t, .slice no ns.length nc, .slice ao l.length ac] (0, 0) _ rfl (setRow_heap W _ _ _ 28 _ HZ9.out) Try.underlying28 rfl info28) rfl ?_
      exact HF.out
  · have q0 : decide ((0 : Int) < (l.length : Int)) = true := decide_eq_true (by omega)
    have p0 : 0 < l.length := by omega
    have F3 := Lib.hid (fun w => within_is n 3 0 hn (by decide) (by decide) (hA.resolve_left hl0) w)
    clear hA hl0
    go_wp2_with fail
    refine (F3.out _).mono ?_
    rintro e w6 ⟨rfl, rfl⟩
    go_upto_region 6 with fail
    go_wp2_with fail
    refine (F7.out _).mono ?_
    rintro e w7 ⟨rfl, rfl⟩
    by_cases h2n : 1 < ns.length
    · have q2 : decide ((1 : Int) < (ns.length : Int)) = true := decide_eq_true (by omega)
      have p2 : 1 < ns.length := h2n
      go_upto_region 22 with fail
      obtain ⟨g, x, rfl, hgW, hgo9, hg2, e0, ⟨y, e1⟩, fz1, HEB, HZ9, hone9, HF⟩ := HSP.out.drew.twice (s := 1 + Et.sizes l) (by omega) (Nat.le_refl _) HSF.out.fine
      have HS : Hid (But W.heap.size g W (W.drew.setCell ⟨g, 1, none⟩ (.string x)) ∧ (W.drew.setCell ⟨g, 1, none⟩ (.string x)).cell? ⟨g, 0, none⟩ = some (.string x)) := ⟨((But.refl _ _ _).drew).setCell (p := ⟨g, 1, none⟩) (.inr rfl) _, by rw [World.cell?_setCell_other _ _ _ _ (by intro h; injection h with _ h; exact absurd h (by decide))]; exact e0⟩
      have e0' : W.cell? ⟨g, 0, none⟩ = some (.string x) := e0
      refine wp_region_noPanic ?_
      refine wp_region_held_drew (S := fun w' => But W.heap.size g W w' ∧ w'.cell? ⟨g, 0, none⟩ = some (.string x)) (by kernel_rfl) ⟨(But.refl _ _ _).drew, e0⟩ (fun hHeld => ?_)
      generalize W.drew = X at HEB HZ9 HF HS e0 e1 fz1 hHeld hgW ⊢
      refine wpAnyH_take (i := 0) (v := Value.pointer (some ⟨go, 2, none⟩)) rfl (by kernel_rfl) (by kernel_rfl) (by kernel_rfl) (fun _ _ _ h => h) (Or.inl ⟨rfl, fun w' hw' => ?_⟩) hHeld ?_
      · go_simp
      simp only [List.getElem_toArray, List.getElem_cons_succ, List.getElem_cons_zero, Act.put, List.setIfInBounds_toArray, List.set_cons_zero, List.set_cons_succ]
      refine wpAnyH_take (i := 1) (v := Value.slice (some ⟨g, 0, none⟩) ns.length nc) rfl (by kernel_rfl) (by kernel_rfl) (by kernel_rfl) (fun _ _ _ h => h) (Or.inl ⟨rfl, fun w' hw' => ?_⟩) hHeld ?_
      · have q9 := (hw'.1.cell (p := ⟨go, 2, none⟩) hgo2 (fun e => hgo9 e.symm)).trans c2; go_simp
      simp only [List.getElem_toArray, List.getElem_cons_succ, List.getElem_cons_zero, Act.put, List.setIfInBounds_toArray, List.set_cons_zero, List.set_cons_succ]
      refine wpAnyH_take (i := 2) (v := Value.pointer (some ⟨go, 2, none⟩)) rfl (by kernel_rfl) (by kernel_rfl) (by kernel_rfl) (fun _ _ _ h => h) (Or.inl ⟨rfl, fun w' hw' => ?_⟩) hHeld ?_
      · go_simp
      simp only [List.getElem_toArray, List.getElem_cons_succ, List.getElem_cons_zero, Act.put, List.setIfInBounds_toArray, List.set_cons_zero, List.set_cons_succ]
      refine wpAnyH_take (i := 3) (v := Value.slice (some ⟨g, 0, none⟩) ns.length nc) rfl (by kernel_rfl) (by kernel_rfl) (by kernel_rfl) (fun _ _ _ h => h) (Or.inl ⟨rfl, fun w' hw' => ?_⟩) hHeld ?_
      · have q9 := (hw'.1.cell (p := ⟨go, 2, none⟩) hgo2 (fun e => hgo9 e.symm)).trans c2; go_simp
      simp only [List.getElem_toArray, List.getElem_cons_succ, List.getElem_cons_zero, Act.put, List.setIfInBounds_toArray, List.set_cons_zero, List.set_cons_succ]
      refine wpAnyH_take (i := 4) (v := Value.pointer (some ⟨g, 0, none⟩)) rfl (by kernel_rfl) (by kernel_rfl) (by kernel_rfl) (fun _ _ _ h => h) (Or.inl ⟨rfl, fun w' hw' => ?_⟩) hHeld ?_
      · have i0 : ns ≠ [] := (by rintro rfl; simp at h2n); go_simp
      simp only [List.getElem_toArray, List.getElem_cons_succ, List.getElem_cons_zero, Act.put, List.setIfInBounds_toArray, List.set_cons_zero, List.set_cons_succ]
      refine wpAnyH_take (i := 5) (v := Value.string x) rfl (by kernel_rfl) (by kernel_rfl) (by kernel_rfl) (fun _ _ _ h => h) (Or.inl ⟨rfl, fun w' hw' => ?_⟩) hHeld ?_
      · have q9 := hw'.2; go_simp
      simp only [List.getElem_toArray, List.getElem_cons_succ, List.getElem_cons_zero, Act.put, List.setIfInBounds_toArray, List.set_cons_zero, List.set_cons_succ]
      refine wpAnyH_take (i := 6) (v := Value.pointer (some ⟨g, 1, none⟩)) rfl (by kernel_rfl) (by kernel_rfl) (by kernel_rfl) (fun _ _ _ h => h) (Or.inl ⟨rfl, fun w' hw' => ?_⟩) hHeld ?_
      · have i0 : ¬ ((ns.length : Int) ≤ 1) := (by omega); go_simp
      simp only [List.getElem_toArray, List.getElem_cons_succ, List.getElem_cons_zero, Act.put, List.setIfInBounds_toArray, List.set_cons_zero, List.set_cons_succ]
      refine wpAnyH_ready (rs := [7]) (by kernel_rfl) (by simp) ?_
      refine (AllReadyH.cons rfl (fun K hK => ?_) AllReadyH.nil)
      go_simp
      refine hK.out _ _ HS.out (fun hHeld => ?_)
      clear hK K
      try simp only [List.getElem_toArray, List.getElem_cons_succ, List.getElem_cons_zero, Act.put, List.setIfInBounds_toArray, List.set_cons_zero, List.set_cons_succ]
      refine wpAnyH_done (by kernel_rfl) ?_ _
      refine NoPanic.normal ?_
      clear hHeld
      go_upto_region 23 with fail
      generalize X.setCell { block := g, off := 1 } (Value.string x) = WR at HEB HZ9 HF ⊢
      go_wp2_with (first | (refine wpList_load_row rfl 28 _ rfl go rfl 28 #[.int .i64 k, .string t, .slice (some ⟨g, 0, none⟩) ns.length nc, .slice ao l.length ac] (0, 0) _ HEB.out Try.underlying28 rfl info28 ?_) | (refine wpList_store_row rfl 28 _ _ rfl gr #[.int .i64 k, .string t, .slice (some ⟨g, 0, none⟩) ns.length nc, .slice ao l.length ac] rfl rfl 28 Z4 HZ9.out info28 rfl hone9 ?_))
      refine bodyPost_ret (results_cell_row rfl _ _ gr 28 #[.int .i64 k, .string t, .slice (some ⟨g, 0, none⟩) ns.length nc, .slice ao l.length ac] (0, 0) _ rfl (setRow_heap WR _ _ _ 28 _ HZ9.out) Try.underlying28 rfl info28) rfl ?_
      exact HF.out

    · have q2 : decide ((1 : Int) < (ns.length : Int)) = false := decide_eq_false (by omega)
      go_upto_region 23 with fail
      obtain ⟨HEB, HZ9, hone9, HF⟩ := HSP.out.same (s := 1 + Et.sizes l) (Nat.le_refl _) HSF.out.fine
      go_wp2_with (first | (refine wpList_load_row rfl 28 _ rfl go rfl 28 #[.int .i64 k, .string t, .slice no ns.length nc, .slice ao l.length ac] (0, 0) _ HEB.out Try.underlying28 rfl info28 ?_) | (refine wpList_store_row rfl 28 _ _ rfl gr #[.int .i64 k, .string t, .slice no ns.length nc, .slice ao l.length ac] rfl rfl 28 Z4 HZ9.out info28 rfl hone9 ?_))
      refine bodyPost_ret (results_cell_row rfl _ _ gr 28 #[.int .i64 k, .string t, .slice no ns.length nc, .slice ao l.length ac] (0, 0) _ rfl (setRow_heap W _ _ _ 28 _ HZ9.out) Try.underlying28 rfl info28) rfl ?_
      exact HF.out
end Go.Proofs.Ytpkcoplpfenliaa
/- spoilt, by what is turned: a part. -/
namespace Go.Proofs.Ytpkcoplpfenliaa
open Go.RowKit Go.BigM
set_option linter.unusedVariables false
set_option linter.unusedSimpArgs false
set_option maxHeartbeats 8000000 in
set_option maxRecDepth 100000 in
theorem spA (k : Int) (t : ByteArray) (ns : List ByteArray) (l : List Et) (S : Nat → Prop) (cs : Array Value) (w : World) (n by_ : Int) (hat : Et.At S w (.mk k t ns l) cs) (hf : SpF (.mk k t ns l)) (hn : I64 n) (hby : I64 by_) (q3 : Nat) (hq3 : n % 3 = (q3 : Int)) (h3 : 0 < q3) (h4 : q3 < 3) (hl0 : 0 < l.length) (ih : ∀ j (h : j < l.length) (n' : Int), I64 n' → ∀ (S : Nat → Prop) (cs : Array Value) (w : World), Et.At S w l[j] cs → Calls Try.prog 14 #[.agg cs, .int .i64 n', .int .i64 by_] w (RetSp l[j].size w)) :
    Calls Try.prog 14 #[.agg cs, .int .i64 n, .int .i64 by_] w (RetSp (1 + Et.sizes l) w) := by
  have hCC := copy_any 401 (by decide) _ (by have := hf.size; omega) hf.fine
  have hnl := hf.names
  have hfine := hf.fine
  have hsz := hf.size
  simp only [Et.size] at hsz
  have hln := length_esizes l
  rw [fine_mk] at hfine
  obtain ⟨ht1, -, hns1, hfl⟩ := hfine
  have hat0 := hat
  obtain ⟨k0, t0, nv0, av0, rfl, o1, o2⟩ := EAt_form hat
  have hb1 : Below w.heap.size w ((w.alloc (.cells #[.int .i64 k0, .string t0, nv0, av0] 28)).alloc (.cells Z4 28)) := ((Below.refl w.heap.size w).alloc (Nat.le_refl _) _).alloc (by simp) _
  have hrow : ((w.alloc (.cells #[.int .i64 k0, .string t0, nv0, av0] 28)).alloc (.cells Z4 28)).heap[w.heap.size]? = some (.cells #[.int .i64 k0, .string t0, nv0, av0] 28 (0, 0)) := (Lib.alloc_old _ _ _ (by simp)).trans (alloc_at w _)
  have hz : ((w.alloc (.cells #[.int .i64 k0, .string t0, nv0, av0] 28)).alloc (.cells Z4 28)).heap[w.heap.size + 1]? = some (.cells Z4 28 (0, 0)) := by
    have h := alloc_at (w.alloc (.cells #[.int .i64 k0, .string t0, nv0, av0] 28)) (.cells Z4 28)
    have e : (w.alloc (.cells #[.int .i64 k0, .string t0, nv0, av0] 28)).heap.size = w.heap.size + 1 := by simp
    rw [e] at h; exact h
  have hs1 : ((w.alloc (.cells #[.int .i64 k0, .string t0, nv0, av0] 28)).alloc (.cells Z4 28)).heap.size = w.heap.size + 2 := by simp
  have HAT := Lib.hid (Et.At.keeps (Keeps.of_below hb1) _ _ hat)
  have HC := Lib.hid (hCC S _ _ HAT.out)
  have HB1 := Lib.hid hb1
  have HZ := Lib.hid hz
  have HS1 := Lib.hid hs1
  have HFL := Lib.hid hfl
  have HNS := Lib.hid hns1
  have HSF := Lib.hid hf
  have c0 := (EB.cell _ _ _ _ _ _ hrow)
  obtain ⟨c0, c1, c2, c3⟩ := c0
  clear hCC hat hat0 hb1 hrow hz hs1 hfl hns1 hf
  go_enter Try.func14, Try.ntmps14
  go_upto_region 1 with fail
  generalize (w.alloc (.cells #[.int .i64 k0, .string t0, nv0, av0] 28)).alloc (.cells #[.int .i64 0, .string ⟨#[]⟩, .slice none 0 0, .slice none 0 0] 28) = W1 at HAT HC HB1 HZ HS1 c0 c1 c2 c3 ⊢
  go_wp2_with fail
  refine HC.out.mono ?_
  rintro e w5 hret
  obtain ⟨no, nc, ao, ac, B, rfl, hone, hsp⟩ := sp_open hret HB1.out HS1.out HZ.out
  have HSP := Lib.hid hsp
  clear hret hsp HC HAT HB1 HZ HS1 c0 c1 c2 c3
  go_upto_region 2 with (refine wpList_store_row rfl 28 _ _ rfl w5.heap.size #[.int .i64 k, .string t, .slice no ns.length nc, .slice ao l.length ac] rfl rfl 28 Z4 (alloc_at _ _) info28 rfl hone ?_)
  try simp only [Act.put]
  have E0 : (w5.alloc (.cells #[.int .i64 0, .string ⟨#[]⟩, .slice none 0 0, .slice none 0 0] 28)).setRow w5.heap.size #[.int .i64 k, .string t, .slice no ns.length nc, .slice ao l.length ac] = w5.alloc (.cells #[.int .i64 k, .string t, .slice no ns.length nc, .slice ao l.length ac] 28) := setRow_new _ _ _ _
  try rw [E0]
  clear E0
  generalize w5.alloc (.cells #[.int .i64 k, .string t, .slice no ns.length nc, .slice ao l.length ac] 28) = W at HSP ⊢
  obtain ⟨go, hgo⟩ : ∃ go, go = w5.heap.size := ⟨_, rfl⟩
  obtain ⟨gr, hgr⟩ : ∃ gr, gr = w.heap.size + 1 := ⟨_, rfl⟩
  rw [← hgo, ← hgr] at HSP
  simp only [← hgo, ← hgr]
  have HGR := Lib.hid hgr
  clear hgo hgr hone
  have SPP := HSP.out
  have hgo1 := SPP.hgo
  have hgo2 := SPP.lt
  have hB := SPP.hB
  have HO : Hid (EB W go k t (.slice no ns.length nc) (.slice ao l.length ac)) := SPP.out
  obtain ⟨c0, c1, c2, c3⟩ := EB.cell _ _ _ _ _ _ HO.out
  have f0 := EB.frozen HO.out 0
  have f1 := EB.frozen HO.out 1
  have f2 := EB.frozen HO.out 2
  have f3 := EB.frozen HO.out 3
  clear SPP
  have F3 := Lib.hid (fun w => within_is n 3 (q3 : Int) hn (by decide) (by decide) hq3 w)
  have q0 : decide ((0 : Int) < (l.length : Int)) = true := decide_eq_true (by omega)
  have q1 : decide ((0 : Int) < (q3 : Int)) = true := decide_eq_true (by omega)
  have FJ := Lib.hid (fun w => within_some2 (wrap64 (n.tdiv 3)) l.length (I64_wrap _) (by omega) (by omega) w)
  have IH := Lib.hid ih
  clear ih hq3 h4
  go_wp2_with fail
  refine (F3.out _).mono ?_
  rintro e w6 ⟨rfl, rfl⟩
  go_wp2_with fail
  refine (FJ.out _).mono ?_
  rintro e w7 ⟨j, hj, rfl, rfl⟩
  have p9 : ¬ ((l.length : Int) ≤ (j : Int)) := by omega
  obtain ⟨g, k5, t5, nv5, av5, rfl, hgW, hgg, hatj, e0, e1, e2, e3, o5, o6, hcont⟩ := HSP.out.drew.part (s := 1 + Et.sizes l) j hj (Nat.le_refl _) HSF.out.fine
  have HC9 := Lib.hid hcont
  have HP := Lib.hid (IH.out j hj (wrap64 (n.tdiv 7)) (I64_wrap _) _ _ _ hatj)
  have HS0 : Hid (But W.heap.size g W W.drew) := (But.refl _ _ _).drew
  have hXW : W.drew.heap.size = W.heap.size := rfl
  have HXW := Lib.hid hXW
  clear hcont hatj hXW IH q1 q0
  go_upto_region 4 with fail
  refine wp_region_noPanic ?_
  refine wp_region_held_drew (S := But W.heap.size g W) (by kernel_rfl) HS0.out (fun hHeld => ?_)
  generalize W.drew = X at HC9 HP HS0 HXW e0 e1 e2 e3 hgW hHeld ⊢
  refine wpAnyH_take (i := 0) (v := Value.pointer (some ⟨go, 3, none⟩)) rfl (by kernel_rfl) (by kernel_rfl) (by kernel_rfl) (fun _ _ _ h => h) (Or.inl ⟨rfl, fun w' hw' => ?_⟩) hHeld ?_
  · go_simp
  simp only [List.getElem_toArray, List.getElem_cons_succ, List.getElem_cons_zero, Act.put, List.setIfInBounds_toArray, List.set_cons_zero, List.set_cons_succ]
  refine wpAnyH_take (i := 1) (v := Value.slice (some ⟨g, 0, none⟩) l.length ac) rfl (by kernel_rfl) (by kernel_rfl) (by kernel_rfl) (fun _ _ _ h => h) (Or.inl ⟨rfl, fun w' hw' => ?_⟩) hHeld ?_
  · have q9 := (hw'.cell (p := ⟨go, 3, none⟩) hgo2 (fun e => hgg e.symm)).trans c3; go_simp
  simp only [List.getElem_toArray, List.getElem_cons_succ, List.getElem_cons_zero, Act.put, List.setIfInBounds_toArray, List.set_cons_zero, List.set_cons_succ]
  refine wpAnyH_take (i := 2) (v := Value.int .i64 (j : Int)) rfl (by kernel_rfl) (by kernel_rfl) (by kernel_rfl) (fun _ _ _ h => h) (Or.inl ⟨rfl, fun w' hw' => ?_⟩) hHeld ?_
  · go_simp
  simp only [List.getElem_toArray, List.getElem_cons_succ, List.getElem_cons_zero, Act.put, List.setIfInBounds_toArray, List.set_cons_zero, List.set_cons_succ]
  refine wpAnyH_take (i := 3) (v := Value.pointer (some ⟨go, 3, none⟩)) rfl (by kernel_rfl) (by kernel_rfl) (by kernel_rfl) (fun _ _ _ h => h) (Or.inl ⟨rfl, fun w' hw' => ?_⟩) hHeld ?_
  · go_simp
  simp only [List.getElem_toArray, List.getElem_cons_succ, List.getElem_cons_zero, Act.put, List.setIfInBounds_toArray, List.set_cons_zero, List.set_cons_succ]
  refine wpAnyH_take (i := 4) (v := Value.slice (some ⟨g, 0, none⟩) l.length ac) rfl (by kernel_rfl) (by kernel_rfl) (by kernel_rfl) (fun _ _ _ h => h) (Or.inl ⟨rfl, fun w' hw' => ?_⟩) hHeld ?_
  · have q9 := (hw'.cell (p := ⟨go, 3, none⟩) hgo2 (fun e => hgg e.symm)).trans c3; go_simp
  simp only [List.getElem_toArray, List.getElem_cons_succ, List.getElem_cons_zero, Act.put, List.setIfInBounds_toArray, List.set_cons_zero, List.set_cons_succ]
  refine wpAnyH_take (i := 5) (v := Value.int .i64 (j : Int)) rfl (by kernel_rfl) (by kernel_rfl) (by kernel_rfl) (fun _ _ _ h => h) (Or.inl ⟨rfl, fun w' hw' => ?_⟩) hHeld ?_
  · go_simp
  simp only [List.getElem_toArray, List.getElem_cons_succ, List.getElem_cons_zero, Act.put, List.setIfInBounds_toArray, List.set_cons_zero, List.set_cons_succ]
  refine wpAnyH_take (i := 6) (v := Value.pointer (some ⟨g, j * 4, none⟩)) rfl (by kernel_rfl) (by kernel_rfl) (by kernel_rfl) (fun _ _ _ h => h) (Or.inl ⟨rfl, fun w' hw' => ?_⟩) hHeld ?_
  · go_simp
  simp only [List.getElem_toArray, List.getElem_cons_succ, List.getElem_cons_zero, Act.put, List.setIfInBounds_toArray, List.set_cons_zero, List.set_cons_succ]
  refine wpAnyH_take (i := 8) (v := Value.int .i64 n) rfl (by kernel_rfl) (by kernel_rfl) (by kernel_rfl) (fun _ _ _ h => h) (Or.inl ⟨rfl, fun w' hw' => ?_⟩) hHeld ?_
  · go_simp
  simp only [List.getElem_toArray, List.getElem_cons_succ, List.getElem_cons_zero, Act.put, List.setIfInBounds_toArray, List.set_cons_zero, List.set_cons_succ]
  refine wpAnyH_take (i := 9) (v := Value.int .i64 (wrap64 (n.tdiv 7))) rfl (by kernel_rfl) (by kernel_rfl) (by kernel_rfl) (fun _ _ _ h => h) (Or.inl ⟨rfl, fun w' hw' => ?_⟩) hHeld ?_
  · go_simp; rw [IntKind.wrap_i64]; unfold wrap64; first | rfl | omega
  simp only [List.getElem_toArray, List.getElem_cons_succ, List.getElem_cons_zero, Act.put, List.setIfInBounds_toArray, List.set_cons_zero, List.set_cons_succ]
  refine wpAnyH_take (i := 10) (v := Value.int .i64 by_) rfl (by kernel_rfl) (by kernel_rfl) (by kernel_rfl) (fun _ _ _ h => h) (Or.inl ⟨rfl, fun w' hw' => ?_⟩) hHeld ?_
  · go_simp
  simp only [List.getElem_toArray, List.getElem_cons_succ, List.getElem_cons_zero, Act.put, List.setIfInBounds_toArray, List.set_cons_zero, List.set_cons_succ]
  refine wpAnyH_ready (rs := [7]) (by kernel_rfl) (by simp) ?_
  refine (AllReadyH.cons rfl (fun K hK => ?_) AllReadyH.nil)
  go_simp
  refine hK.out _ _ HS0.out (fun hHeld => ?_)
  clear hK K
  try simp only [List.getElem_toArray, List.getElem_cons_succ, List.getElem_cons_zero, Act.put, List.setIfInBounds_toArray, List.set_cons_zero, List.set_cons_succ]
  refine wpAnyH_ready (rs := [11]) (by kernel_rfl) (by simp) ?_
  refine (AllReadyH.cons rfl (fun K hK => ?_) AllReadyH.nil)
  go_simp
  refine HP.out.mono ?_
  rintro e w7 ⟨cs7, t7, rfl, hat7, hs7, hf7, hb7⟩
  obtain ⟨k6, t6, no6, nn6, nc6, ao6, an6, ac6, rfl⟩ := EAt_slices hat7
  obtain ⟨⟨d0, d1, d2, d3⟩, hfz, HEB, HZ9, hone9, HF⟩ := HC9.out w7 t7 k6 t6 (.slice no6 nn6 nc6) (.slice ao6 an6 ac6) hb7 hat7 hs7 hf7
  have z0 := hfz (j * 4)
  have z1 := hfz (j * 4 + 1)
  have z2 := hfz (j * 4 + 2)
  have z3 := hfz (j * 4 + 3)
  have HS7 : Hid (But W.heap.size g W w7) := HS0.out.trans (But.of (hb7.mono (by have : X.heap.size = W.heap.size := HXW.out; omega)))
  have HS9 : Hid (But W.heap.size g W (set4 w7 g (j * 4) (.int .i64 k6) (.string t6) (.slice no6 nn6 nc6) (.slice ao6 an6 ac6))) := HS7.out.set4 _ _ _ _
  clear hat7 hs7 hf7 hb7 hfz HC9 HP
  unfold set4 at HEB HZ9 HF HS9
  refine hK.out _ _ HS7.out (fun hHeld => ?_)
  clear hK K
  try simp only [List.getElem_toArray, List.getElem_cons_succ, List.getElem_cons_zero, Act.put, List.setIfInBounds_toArray, List.set_cons_zero, List.set_cons_succ]
  refine wpAnyH_take (i := 12) (v := Value.pointer (some ⟨g, j * 4, none⟩)) rfl (by kernel_rfl) (by kernel_rfl) (by kernel_rfl) (fun _ _ _ h => h) (Or.inl ⟨rfl, fun w' hw' => ?_⟩) hHeld ?_
  · go_simp
  simp only [List.getElem_toArray, List.getElem_cons_succ, List.getElem_cons_zero, Act.put, List.setIfInBounds_toArray, List.set_cons_zero, List.set_cons_succ]
  refine wpAnyH_ready (rs := [13]) (by kernel_rfl) (by simp) ?_
  refine (AllReadyH.cons rfl (fun K hK => ?_) AllReadyH.nil)
  go_simp
  refine hK.out _ _ HS9.out (fun hHeld => ?_)
  clear hK K
  try simp only [List.getElem_toArray, List.getElem_cons_succ, List.getElem_cons_zero, Act.put, List.setIfInBounds_toArray, List.set_cons_zero, List.set_cons_succ]
  refine wpAnyH_done (by kernel_rfl) ?_ _
  refine NoPanic.normal ?_
  clear hHeld
  go_upto_region 5 with fail
  generalize (((w7.setCell ⟨g, j * 4, none⟩ (.int .i64 k6)).setCell ⟨g, j * 4 + 1, none⟩ (.string t6)).setCell ⟨g, j * 4 + 2, none⟩ (.slice no6 nn6 nc6)).setCell ⟨g, j * 4 + 3, none⟩ (.slice ao6 an6 ac6) = WR at HEB HZ9 HF ⊢
  go_wp2_with (first | (refine wpList_load_row rfl 28 _ rfl go rfl 28 #[.int .i64 k, .string t, .slice no ns.length nc, .slice (some ⟨g, 0, none⟩) l.length ac] (0, 0) _ HEB.out Try.underlying28 rfl info28 ?_) | (refine wpList_store_row rfl 28 _ _ rfl gr #[.int .i64 k, .string t, .slice no ns.length nc, .slice (some ⟨g, 0, none⟩) l.length ac] rfl rfl 28 Z4 HZ9.out info28 rfl hone9 ?_))
  refine bodyPost_ret (results_cell_row rfl _ _ gr 28 #[.int .i64 k, .string t, .slice no ns.length nc, .slice (some ⟨g, 0, none⟩) l.length ac] (0, 0) _ rfl (setRow_heap WR _ _ _ 28 _ HZ9.out) Try.underlying28 rfl info28) rfl ?_
  exact HF.out
end Go.Proofs.Ytpkcoplpfenliaa
/- spoilt's contract. -/
namespace Go.Proofs.Ytpkcoplpfenliaa
open Go.RowKit Go.BigM
theorem spoilt_tree (N : Nat) : ∀ (d : Et), d.size ≤ N → SpF d → ∀ (n by_ : Int), I64 n → I64 by_ → ∀ (S : Nat → Prop) (cs : Array Value) (w : World), Et.At S w d cs → Calls Try.prog 14 #[.agg cs, .int .i64 n, .int .i64 by_] w (RetSp d.size w) := by
  induction N with
  | zero => intro d hd; cases d; simp [Et.size] at hd
  | succ N IH =>
    intro d hd hf n by_ hn hby S cs w hat
    obtain ⟨k, t, ns, l⟩ := d
    have hsz : Et.sizes l ≤ N := by simp only [Et.size] at hd; omega
    show Calls Try.prog 14 #[.agg cs, .int .i64 n, .int .i64 by_] w (RetSp (1 + Et.sizes l) w)
    by_cases hA : l.length = 0 ∨ n % 3 = 0
    · have h1 : 0 ≤ by_ % 7 := Int.emod_nonneg _ (by decide)
      have h2 : by_ % 7 < 7 := Int.emod_lt_of_pos _ (by decide)
      have h3 : by_ % 7 = 0 ∨ by_ % 7 = 1 ∨ by_ % 7 = 2 ∨ by_ % 7 = 3 ∨ by_ % 7 = 4 ∨ by_ % 7 = 5 ∨ by_ % 7 = 6 := by omega
      rcases h3 with h3 | h3 | h3 | h3 | h3 | h3 | h3
      · exact sp0 k t ns l S cs w n by_ hat hf hn hby hA h3
      · exact sp1 k t ns l S cs w n by_ hat hf hn hby hA h3
      · exact sp2 k t ns l S cs w n by_ hat hf hn hby hA h3
      · exact sp3 k t ns l S cs w n by_ hat hf hn hby hA h3
      · exact sp4 k t ns l S cs w n by_ hat hf hn hby hA h3
      · exact sp5 k t ns l S cs w n by_ hat hf hn hby hA h3
      · exact sp6 k t ns l S cs w n by_ hat hf hn hby hA h3
    · have h1 : 0 ≤ n % 3 := Int.emod_nonneg _ (by decide)
      have h2 : n % 3 < 3 := Int.emod_lt_of_pos _ (by decide)
      obtain ⟨q3, hq3⟩ : ∃ q3 : Nat, n % 3 = (q3 : Int) := ⟨(n % 3).toNat, by omega⟩
      refine spA k t ns l S cs w n by_ hat hf hn hby q3 hq3 (by omega) (by omega) (by omega) ?_
      intro j hj n' hn' S' cs' w' hat'
      exact IH l[j] (by have := esize_get l j hj; omega) (hf.part j hj) n' by_ hn' hby S' cs' w' hat'
theorem spoilt_any (d : Et) (hf : SpF d) (n by_ : Int) (hn : I64 n) (hby : I64 by_) (S : Nat → Prop) (cs : Array Value) (w : World) (hat : Et.At S w d cs) : Calls Try.prog 14 #[.agg cs, .int .i64 n, .int .i64 by_] w (RetSp d.size w) := spoilt_tree d.size d (Nat.le_refl _) hf n by_ hn hby S cs w hat
/-- What Term makes may be spoilt. -/
theorem Made.spf {m' : Nat} {t : Et} (h : Made [] 0 m' t) (hs : t.size ≤ 400) (hm : m' ≤ 99) : SpF t := ⟨h.fine, hs, by rw [h.bnd, nms_len]; omega⟩
end Go.Proofs.Ytpkcoplpfenliaa
/- The walk of CoreRight. -/
namespace Go.Proofs.Ytpkcoplpfenliaa
open Go.RowKit Go.BigM
set_option linter.unusedVariables false
set_option linter.unusedSimpArgs false
theorem prim_at {S : Nat → Prop} {w w0 : World} {e : Et} {cs : Array Value} (h : Et.At S w0 e cs) (hb : Below w0.heap.size w0 w) (h4 : cs.size = 4) (t : ByteArray) : Et.At (fun _ => True) (w.alloc (.cells cs 28)) (.mk 10 t [] [e]) #[.int .i64 10, .string t, .slice none 0 0, .slice (some ⟨w.heap.size, 0, none⟩) 1 1] := by
  rw [EAt_mk]
  refine ⟨_, _, rfl, .inl ⟨rfl, rfl⟩, .inr ⟨w.heap.size, 0, 1, cs, (0, 0), rfl, trivial, alloc_at _ _, ?_⟩⟩
  unfold Ets.At
  refine ⟨⟨cs, fun i hi => by rw [Nat.zero_add], ?_⟩, by unfold Ets.At; trivial⟩
  exact Et.At.keeps (Keeps.of_below ((Below.refl _ _).alloc (Nat.le_refl _) _)) _ _ (Et.At.keeps (Keeps.of_below hb) _ _ (Et.At.mono (fun _ _ => trivial) _ _ h))
theorem prim_fine {e : Et} {t : ByteArray} (h : e.fine) (ht : t.size ≤ 60) : (Et.mk 10 t [] [e]).fine := by
  rw [fine_mk]; exact ⟨by omega, by simp, by simp, fun x hx => by simp at hx; subst hx; exact h⟩
set_option maxHeartbeats 8000000 in
set_option maxRecDepth 100000 in
theorem right_walk (l : List Rw) (ao : Option Addr) (cap : Nat) (n by_ : Int) (tx : ByteArray) (w : World) (hR : RsAt w ao l) (hn : I64 n) (hby : I64 by_) (htx : tx.size ≤ maxLen) : Calls Try.prog 3 #[.slice ao l.length cap, .int .i64 n, .int .i64 by_, .string tx] w (RetBool true w) := by
  have K0 := Lib.hid (fun w => known_any w)
  have HR := Lib.hid hR
  clear hR htx
  go_enter Try.func3, Try.ntmps3
  go_wp2_with fail
  refine (K0.out _).mono ?_
  rintro e w1 ⟨rfl, hb1⟩
  have HR1 := Lib.hid (HR.out.below hb1)
  have HB1 := Lib.hid hb1
  have HFE := Lib.hid (few_any l ao cap w1 HR1.out)
  clear hb1
  by_cases ht60 : 60 < tx.size
  · have q0 : decide ((60 : Int) < (tx.size : Int)) = true := decide_eq_true (by omega)
    go_wp2_with fail
    refine HFE.out.mono ?_
    rintro e w2 ⟨r, rfl, hr, rfl⟩
    clear hr
    cases r with
    | false =>
      go_wp2_with fail
      go_ret
      exact ⟨rfl, HB1.out⟩
    | true =>
      go_wp2_with fail
      go_ret
      exact ⟨rfl, HB1.out⟩
  · have q0 : decide ((60 : Int) < (tx.size : Int)) = false := decide_eq_false (by omega)
    go_wp2_with fail
    refine HFE.out.mono ?_
    rintro e w2 ⟨r, rfl, hr, rfl⟩
    cases r with
    | false =>
      go_wp2_with fail
      go_ret
      exact ⟨rfl, HB1.out⟩
    | true =>
      have HT := Lib.hid (term_any l ao cap w1 HR1.out (hr rfl))
      clear hr
      go_upto_region 5 with fail
      go_wp2_with fail
      refine HT.out.mono ?_
      rintro e w5 ⟨cs, t, m', rfl, hat, hM, hsz, hm', hb5⟩
      obtain ⟨k0, t0, nv0, av0, rfl, o10, o20⟩ := EAt_form hat
      have z0 : (#[.int .i64 k0, .string t0, nv0, av0] : Array Value).all (·.oneCell') = true := by simp [Value.oneCell'] at o10 o20 ⊢; exact ⟨o10, o20⟩
      have HB5 := Lib.hid (HB1.out.trans (hb5.mono HB1.out.size))
      have HAT := Lib.hid (Et.At.mono (fun x _ => trivial) _ _ hat : Et.At (fun _ => True) w5 t #[.int .i64 k0, .string t0, nv0, av0])
      have HM := Lib.hid hM
      have HSPF := Lib.hid (hM.spf hsz hm')
      clear hat hM hb5 HT HFE hm'
      go_upto_region 6 with (refine wpList_store_row rfl 28 _ _ rfl w5.heap.size #[.int .i64 k0, .string t0, nv0, av0] rfl rfl 28 Z4 (alloc_at _ _) info28 rfl z0 ?_)
      try simp only [Act.put]
      have E0 : (w5.alloc (.cells #[.int .i64 0, .string ⟨#[]⟩, .slice none 0 0, .slice none 0 0] 28)).setRow w5.heap.size #[.int .i64 k0, .string t0, nv0, av0] = w5.alloc (.cells #[.int .i64 k0, .string t0, nv0, av0] 28) := setRow_new _ _ _ _
      try rw [E0]
      clear E0
      have F0 := (Below.refl w5.heap.size w5).alloc (Nat.le_refl _) (.cells #[.int .i64 k0, .string t0, nv0, av0] 28)
      have HB6 := Lib.hid (HB5.out.trans (F0.mono HB5.out.size))
      have HA6 := Lib.hid (Et.At.keeps (Keeps.of_below F0) _ _ HAT.out)
      have HE6 : Hid (EB (w5.alloc (.cells #[.int .i64 k0, .string t0, nv0, av0] 28)) w5.heap.size k0 t0 nv0 av0) := alloc_at w5 (.cells #[.int .i64 k0, .string t0, nv0, av0] 28)
      have hz6 : w5.heap.size < (w5.alloc (.cells #[.int .i64 k0, .string t0, nv0, av0] 28)).heap.size := by simp
      generalize w5.alloc (.cells #[.int .i64 k0, .string t0, nv0, av0] 28) = W6 at HB6 HA6 HE6 hz6 ⊢
      clear F0 HAT HB5
      generalize w5.heap.size = ge at HE6 hz6 ⊢
      have HS6 := Lib.hid (spoilt_any t HSPF.out n by_ hn hby _ _ W6 HA6.out)
      go_wp2_with (refine wpList_load_row rfl 28 _ rfl ge rfl 28 #[.int .i64 k0, .string t0, nv0, av0] (0, 0) _ HE6.out Try.underlying28 rfl info28 ?_)
      refine HS6.out.mono ?_
      rintro e w7 ⟨cs7, x, rfl, hat7, hs7, hf7, hb7⟩
      obtain ⟨k1, t1, nv1, av1, rfl, o11, o21⟩ := EAt_form hat7
      have z1 : (#[.int .i64 k1, .string t1, nv1, av1] : Array Value).all (·.oneCell') = true := by simp [Value.oneCell'] at o11 o21 ⊢; exact ⟨o11, o21⟩
      have HB7 := Lib.hid (HB6.out.trans (hb7.mono HB6.out.size))
      have HA7 := Lib.hid (Et.At.keeps (Keeps.of_below hb7) _ _ HA6.out)
      have HX7 := Lib.hid (Et.At.mono (fun x _ => trivial) _ _ hat7 : Et.At (fun _ => True) w7 x #[.int .i64 k1, .string t1, nv1, av1])
      have HE7 : Hid (EB w7 ge k0 t0 nv0 av0) := row_below hb7 HE6.out
      have hz7 : ge < w7.heap.size := Nat.lt_of_lt_of_le hz6 hb7.size
      have hx5 : x.size ≤ 401 := by omega
      have HF7 := Lib.hid hf7
      clear hat7 hb7 hs7 hf7 HS6 HA6 HE6 hz6 HB6
      go_upto_region 7 with (refine wpList_store_row rfl 28 _ _ rfl w7.heap.size #[.int .i64 k1, .string t1, nv1, av1] rfl rfl 28 Z4 (alloc_at _ _) info28 rfl z1 ?_)
      try simp only [Act.put]
      have E0 : (w7.alloc (.cells #[.int .i64 0, .string ⟨#[]⟩, .slice none 0 0, .slice none 0 0] 28)).setRow w7.heap.size #[.int .i64 k1, .string t1, nv1, av1] = w7.alloc (.cells #[.int .i64 k1, .string t1, nv1, av1] 28) := setRow_new _ _ _ _
      try rw [E0]
      clear E0
      have F0 := (Below.refl w7.heap.size w7).alloc (Nat.le_refl _) (.cells #[.int .i64 k1, .string t1, nv1, av1] 28)
      have HB8 := Lib.hid (HB7.out.trans (F0.mono HB7.out.size))
      have HA8 := Lib.hid (Et.At.keeps (Keeps.of_below F0) _ _ HA7.out)
      have HX8 := Lib.hid (Et.At.keeps (Keeps.of_below F0) _ _ HX7.out)
      have HE8 : Hid (EB (w7.alloc (.cells #[.int .i64 k1, .string t1, nv1, av1] 28)) ge k0 t0 nv0 av0) := row_below F0 HE7.out
      have HG8 : Hid (EB (w7.alloc (.cells #[.int .i64 k1, .string t1, nv1, av1] 28)) w7.heap.size k1 t1 nv1 av1) := alloc_at w7 (.cells #[.int .i64 k1, .string t1, nv1, av1] 28)
      have hz8 : w7.heap.size < (w7.alloc (.cells #[.int .i64 k1, .string t1, nv1, av1] 28)).heap.size := by simp
      generalize w7.alloc (.cells #[.int .i64 k1, .string t1, nv1, av1] 28) = W at HB8 HA8 HX8 HE8 HG8 hz8 ⊢
      clear F0 HA7 HX7 HE7 HB7
      generalize w7.heap.size = gx at HG8 hz7 hz8 ⊢
      have hz9 : ge < W.heap.size := by omega
      have HCE : Hid (∀ w', Below W.heap.size W w' → w'.cell? ⟨ge, 0, none⟩ = some (.int .i64 k0) ∧ w'.cell? ⟨ge, 1, none⟩ = some (.string t0) ∧ w'.cell? ⟨ge, 2, none⟩ = some nv0 ∧ w'.cell? ⟨ge, 3, none⟩ = some av0) := fun w' hw' => EB.cell w' ge k0 t0 _ _ (row_below hw' HE8.out)
      have HCX : Hid (∀ w', Below W.heap.size W w' → w'.cell? ⟨gx, 0, none⟩ = some (.int .i64 k1) ∧ w'.cell? ⟨gx, 1, none⟩ = some (.string t1) ∧ w'.cell? ⟨gx, 2, none⟩ = some nv1 ∧ w'.cell? ⟨gx, 3, none⟩ = some av1) := fun w' hw' => EB.cell w' gx k1 t1 _ _ (row_below hw' HG8.out)
      have HRE : Hid (∀ w', Below W.heap.size W w' → Calls Try.prog 15 #[.agg #[.int .i64 k0, .string t0, nv0, av0]] w' (RetBool true w')) := fun w' hw' => by
        have h := right_any2 t _ _ w' (Et.At.keeps (Keeps.of_below hw') _ _ HA8.out) (by omega) HM.out.fine
        rw [HM.out.right] at h; exact h
      obtain ⟨b, hb⟩ : ∃ b, b = x.right num := ⟨_, rfl⟩
      have HRX : Hid (∀ w', Below W.heap.size W w' → Calls Try.prog 15 #[.agg #[.int .i64 k1, .string t1, nv1, av1]] w' (RetBool b w')) := fun w' hw' => by
        rw [hb]; exact right_any2 x _ _ w' (Et.At.keeps (Keeps.of_below hw') _ _ HX8.out) (by omega) HF7.out
      have HQX : Hid (∀ w', Below W.heap.size W w' → Calls Try.prog 16 #[.agg #[.int .i64 k1, .string t1, nv1, av1]] w' (RetBool b w')) := fun w' hw' => by
        rw [hb]; exact refright_any x _ _ w' (Et.At.keeps (Keeps.of_below hw') _ _ HX8.out) (by omega) HF7.out
      obtain ⟨c, hc⟩ : ∃ c, c = (Et.mk 10 tx [] [t]).right num := ⟨_, rfl⟩
      have HRP : Hid (∀ w' w'', Below W.heap.size W w' → Below (w'.alloc (.cells #[.int .i64 k0, .string t0, nv0, av0] 28)).heap.size (w'.alloc (.cells #[.int .i64 k0, .string t0, nv0, av0] 28)) w'' → Calls Try.prog 15 #[.agg #[.int .i64 10, .string tx, .slice none 0 0, .slice (some ⟨w'.heap.size, 0, none⟩) 1 1]] w'' (RetBool c w'')) := fun w' w'' hw' hw'' => by
        rw [hc]
        exact right_any2 _ _ _ w'' (Et.At.keeps (Keeps.of_below hw'') _ _ (prim_at HA8.out hw' rfl tx)) (by simp only [Et.size, Et.sizes]; omega) (prim_fine HM.out.fine (by omega))
      have HA := Lib.hid (fun w => arity_any tx w)
      have HQ := Lib.hid (fun w => refarity_any tx w)
      have HQP : Hid (∀ w' w'', Below W.heap.size W w' → Below (w'.alloc (.cells #[.int .i64 k0, .string t0, nv0, av0] 28)).heap.size (w'.alloc (.cells #[.int .i64 k0, .string t0, nv0, av0] 28)) w'' → Calls Try.prog 16 #[.agg #[.int .i64 10, .string tx, .slice none 0 0, .slice (some ⟨w'.heap.size, 0, none⟩) 1 1]] w'' (RetBool c w'')) := fun w' w'' hw' hw'' => by
        rw [hc]
        exact refright_any _ _ _ w'' (Et.At.keeps (Keeps.of_below hw'') _ _ (prim_at HA8.out hw' rfl tx)) (by simp only [Et.size, Et.sizes]; omega) (prim_fine HM.out.fine (by omega))
      have HS0 : Hid (Below W.heap.size W W.drew) := (Below.refl _ _).drew
      clear hb hc HA8 HX8 HE8 HG8 HM HSPF HF7
      refine wp_region_noPanic ?_
      refine wp_region_held_drew (S := Below W.heap.size W) (by kernel_rfl) HS0.out (fun hHeld => ?_)
      generalize W.drew = X at HS0 hHeld ⊢
      refine wpAnyH_take (i := 0) (v := Value.agg #[.int .i64 k0, .string t0, nv0, av0]) rfl (by kernel_rfl) (by kernel_rfl) (by kernel_rfl) (fun _ _ _ h => h) (Or.inl ⟨rfl, fun w' hw' => ?_⟩) hHeld ?_
      · obtain ⟨d0, d1, d2, d3⟩ := HCE.out w' hw'; go_simp
      simp only [List.getElem_toArray, List.getElem_cons_succ, List.getElem_cons_zero, Act.put, List.setIfInBounds_toArray, List.set_cons_zero, List.set_cons_succ]
      refine wpAnyH_ready (rs := [1]) (by kernel_rfl) (by simp) ?_
      refine (AllReadyH.cons rfl (fun K hK => ?_) AllReadyH.nil)
      go_simp
      refine (HRE.out _ HS0.out).mono ?_
      rintro e w1a ⟨rfl, hbq⟩
      have HS1 : Hid (Below W.heap.size W w1a) := HS0.out.trans (hbq.mono HS0.out.size)
      clear hbq
      refine hK.out _ _ HS1.out (fun hHeld => ?_)
      clear hK K
      try simp only [List.getElem_toArray, List.getElem_cons_succ, List.getElem_cons_zero, Act.put, List.setIfInBounds_toArray, List.set_cons_zero, List.set_cons_succ]
      refine wpAnyH_take (i := 2) (v := Value.bool true) rfl (by kernel_rfl) (by kernel_rfl) (by kernel_rfl) (fun _ _ _ h => h) (Or.inl ⟨rfl, fun w' hw' => ?_⟩) hHeld ?_
      · go_simp
      simp only [List.getElem_toArray, List.getElem_cons_succ, List.getElem_cons_zero, Act.put, List.setIfInBounds_toArray, List.set_cons_zero, List.set_cons_succ]
      refine wpAnyH_take (i := 3) (v := Value.agg #[.int .i64 k1, .string t1, nv1, av1]) rfl (by kernel_rfl) (by kernel_rfl) (by kernel_rfl) (fun _ _ _ h => h) (Or.inl ⟨rfl, fun w' hw' => ?_⟩) hHeld ?_
      · obtain ⟨d0, d1, d2, d3⟩ := HCX.out w' hw'; go_simp
      simp only [List.getElem_toArray, List.getElem_cons_succ, List.getElem_cons_zero, Act.put, List.setIfInBounds_toArray, List.set_cons_zero, List.set_cons_succ]
      refine wpAnyH_take (i := 5) (v := Value.agg #[.int .i64 k1, .string t1, nv1, av1]) rfl (by kernel_rfl) (by kernel_rfl) (by kernel_rfl) (fun _ _ _ h => h) (Or.inl ⟨rfl, fun w' hw' => ?_⟩) hHeld ?_
      · obtain ⟨d0, d1, d2, d3⟩ := HCX.out w' hw'; go_simp
      simp only [List.getElem_toArray, List.getElem_cons_succ, List.getElem_cons_zero, Act.put, List.setIfInBounds_toArray, List.set_cons_zero, List.set_cons_succ]
      refine wpAnyH_ready (rs := [4]) (by kernel_rfl) (by simp) ?_
      refine (AllReadyH.cons rfl (fun K hK => ?_) AllReadyH.nil)
      go_simp
      refine (HRX.out _ HS1.out).mono ?_
      rintro e w2a ⟨rfl, hbq⟩
      have HS2 : Hid (Below W.heap.size W w2a) := HS1.out.trans (hbq.mono HS1.out.size)
      clear hbq
      refine hK.out _ _ HS2.out (fun hHeld => ?_)
      clear hK K
      try simp only [List.getElem_toArray, List.getElem_cons_succ, List.getElem_cons_zero, Act.put, List.setIfInBounds_toArray, List.set_cons_zero, List.set_cons_succ]
      refine wpAnyH_ready (rs := [6]) (by kernel_rfl) (by simp) ?_
      refine (AllReadyH.cons rfl (fun K hK => ?_) AllReadyH.nil)
      go_simp
      refine (HQX.out _ HS2.out).mono ?_
      rintro e w3a ⟨rfl, hbq⟩
      have HS3 : Hid (Below W.heap.size W w3a) := HS2.out.trans (hbq.mono HS2.out.size)
      clear hbq
      refine hK.out _ _ HS3.out (fun hHeld => ?_)
      clear hK K
      try simp only [List.getElem_toArray, List.getElem_cons_succ, List.getElem_cons_zero, Act.put, List.setIfInBounds_toArray, List.set_cons_zero, List.set_cons_succ]
      refine wpAnyH_take (i := 7) (v := Value.bool true) rfl (by kernel_rfl) (by kernel_rfl) (by kernel_rfl) (fun _ _ _ h => h) (Or.inl ⟨rfl, fun w' hw' => ?_⟩) hHeld ?_
      · go_simp
      simp only [List.getElem_toArray, List.getElem_cons_succ, List.getElem_cons_zero, Act.put, List.setIfInBounds_toArray, List.set_cons_zero, List.set_cons_succ]
      refine wpAnyH_take (i := 8) (v := Value.bool true) rfl (by kernel_rfl) (by kernel_rfl) (by kernel_rfl) (fun _ _ _ h => h) (Or.inl ⟨rfl, fun w' hw' => ?_⟩) hHeld ?_
      · go_simp
      simp only [List.getElem_toArray, List.getElem_cons_succ, List.getElem_cons_zero, Act.put, List.setIfInBounds_toArray, List.set_cons_zero, List.set_cons_succ]
      refine wpAnyH_take (i := 9) (v := Value.bool true) rfl (by kernel_rfl) (by kernel_rfl) (by kernel_rfl) (fun _ _ _ h => h) (Or.inl ⟨rfl, fun w' hw' => ?_⟩) hHeld ?_
      · go_simp
      simp only [List.getElem_toArray, List.getElem_cons_succ, List.getElem_cons_zero, Act.put, List.setIfInBounds_toArray, List.set_cons_zero, List.set_cons_succ]
      refine wpAnyH_take (i := 10) (v := Value.string tx) rfl (by kernel_rfl) (by kernel_rfl) (by kernel_rfl) (fun _ _ _ h => h) (Or.inl ⟨rfl, fun w' hw' => ?_⟩) hHeld ?_
      · go_simp
      simp only [List.getElem_toArray, List.getElem_cons_succ, List.getElem_cons_zero, Act.put, List.setIfInBounds_toArray, List.set_cons_zero, List.set_cons_succ]
      refine wpAnyH_take (i := 12) (v := Value.string tx) rfl (by kernel_rfl) (by kernel_rfl) (by kernel_rfl) (fun _ _ _ h => h) (Or.inl ⟨rfl, fun w' hw' => ?_⟩) hHeld ?_
      · go_simp
      simp only [List.getElem_toArray, List.getElem_cons_succ, List.getElem_cons_zero, Act.put, List.setIfInBounds_toArray, List.set_cons_zero, List.set_cons_succ]
      refine wpAnyH_ready (rs := [11]) (by kernel_rfl) (by simp) ?_
      refine (AllReadyH.cons rfl (fun K hK => ?_) AllReadyH.nil)
      go_simp
      refine (HA.out _).mono ?_
      rintro e wq ⟨rfl, rfl⟩
      refine hK.out _ _ HS3.out (fun hHeld => ?_)
      clear hK K
      try simp only [List.getElem_toArray, List.getElem_cons_succ, List.getElem_cons_zero, Act.put, List.setIfInBounds_toArray, List.set_cons_zero, List.set_cons_succ]
      refine wpAnyH_ready (rs := [13]) (by kernel_rfl) (by simp) ?_
      refine (AllReadyH.cons rfl (fun K hK => ?_) AllReadyH.nil)
      go_simp
      refine (HQ.out _).mono ?_
      rintro e w4a ⟨rfl, hbq⟩
      have HS4 : Hid (Below W.heap.size W w4a) := HS3.out.trans (hbq.mono HS3.out.size)
      clear hbq
      refine hK.out _ _ HS4.out (fun hHeld => ?_)
      clear hK K
      try simp only [List.getElem_toArray, List.getElem_cons_succ, List.getElem_cons_zero, Act.put, List.setIfInBounds_toArray, List.set_cons_zero, List.set_cons_succ]
      refine wpAnyH_take (i := 14) (v := Value.bool true) rfl (by kernel_rfl) (by kernel_rfl) (by kernel_rfl) (fun _ _ _ h => h) (Or.inl ⟨rfl, fun w' hw' => ?_⟩) hHeld ?_
      · go_simp
      simp only [List.getElem_toArray, List.getElem_cons_succ, List.getElem_cons_zero, Act.put, List.setIfInBounds_toArray, List.set_cons_zero, List.set_cons_succ]
      refine wpAnyH_take (i := 15) (v := Value.bool true) rfl (by kernel_rfl) (by kernel_rfl) (by kernel_rfl) (fun _ _ _ h => h) (Or.inl ⟨rfl, fun w' hw' => ?_⟩) hHeld ?_
      · go_simp
      simp only [List.getElem_toArray, List.getElem_cons_succ, List.getElem_cons_zero, Act.put, List.setIfInBounds_toArray, List.set_cons_zero, List.set_cons_succ]
      refine wpAnyH_take (i := 16) (v := Value.bool true) rfl (by kernel_rfl) (by kernel_rfl) (by kernel_rfl) (fun _ _ _ h => h) (Or.inl ⟨rfl, fun w' hw' => ?_⟩) hHeld ?_
      · go_simp
      simp only [List.getElem_toArray, List.getElem_cons_succ, List.getElem_cons_zero, Act.put, List.setIfInBounds_toArray, List.set_cons_zero, List.set_cons_succ]
      refine wpAnyH_take (i := 17) (v := Value.string tx) rfl (by kernel_rfl) (by kernel_rfl) (by kernel_rfl) (fun _ _ _ h => h) (Or.inl ⟨rfl, fun w' hw' => ?_⟩) hHeld ?_
      · go_simp
      simp only [List.getElem_toArray, List.getElem_cons_succ, List.getElem_cons_zero, Act.put, List.setIfInBounds_toArray, List.set_cons_zero, List.set_cons_succ]
      refine wpAnyH_take (i := 18) (v := Value.agg #[.int .i64 k0, .string t0, nv0, av0]) rfl (by kernel_rfl) (by kernel_rfl) (by kernel_rfl) (fun _ _ _ h => h) (Or.inl ⟨rfl, fun w' hw' => ?_⟩) hHeld ?_
      · obtain ⟨d0, d1, d2, d3⟩ := HCE.out w' hw'; go_simp
      simp only [List.getElem_toArray, List.getElem_cons_succ, List.getElem_cons_zero, Act.put, List.setIfInBounds_toArray, List.set_cons_zero, List.set_cons_succ]
      refine wpAnyH_take (i := 22) (v := Value.string tx) rfl (by kernel_rfl) (by kernel_rfl) (by kernel_rfl) (fun _ _ _ h => h) (Or.inl ⟨rfl, fun w' hw' => ?_⟩) hHeld ?_
      · go_simp
      simp only [List.getElem_toArray, List.getElem_cons_succ, List.getElem_cons_zero, Act.put, List.setIfInBounds_toArray, List.set_cons_zero, List.set_cons_succ]
      refine wpAnyH_take (i := 23) (v := Value.agg #[.int .i64 k0, .string t0, nv0, av0]) rfl (by kernel_rfl) (by kernel_rfl) (by kernel_rfl) (fun _ _ _ h => h) (Or.inl ⟨rfl, fun w' hw' => ?_⟩) hHeld ?_
      · obtain ⟨d0, d1, d2, d3⟩ := HCE.out w' hw'; go_simp
      simp only [List.getElem_toArray, List.getElem_cons_succ, List.getElem_cons_zero, Act.put, List.setIfInBounds_toArray, List.set_cons_zero, List.set_cons_succ]
      refine wpAnyH_ready (rs := [19, 24]) (by kernel_rfl) (by simp) ?_
      refine (AllReadyH.cons rfl (fun K hK => ?_) (AllReadyH.cons rfl (fun K hK => ?_) AllReadyH.nil))
      · skip
        go_simp
        have HA19 : Hid (Below W.heap.size W (w4a.alloc (.cells #[.int .i64 k0, .string t0, nv0, av0] 28))) := HS4.out.alloc HS4.out.size _
        have HP19 : Hid (∀ w'', Below (w4a.alloc (.cells #[.int .i64 k0, .string t0, nv0, av0] 28)).heap.size (w4a.alloc (.cells #[.int .i64 k0, .string t0, nv0, av0] 28)) w'' → Calls Try.prog 15 #[.agg #[.int .i64 10, .string tx, .slice none 0 0, .slice (some ⟨w4a.heap.size, 0, none⟩) 1 1]] w'' (RetBool c w'')) := fun w'' h => HRP.out w4a w'' HS4.out h
        refine hK.out _ _ HA19.out (fun hHeld => ?_)
        clear hK K
        try simp only [List.getElem_toArray, List.getElem_cons_succ, List.getElem_cons_zero, Act.put, List.setIfInBounds_toArray, List.set_cons_zero, List.set_cons_succ]
        have HB19 : Hid (Below w4a.heap.size w4a (w4a.alloc (.cells #[.int .i64 k0, .string t0, nv0, av0] 28))) := (Below.refl _ _).alloc (Nat.le_refl _) _
        generalize (w4a.alloc (.cells #[.int .i64 k0, .string t0, nv0, av0] 28)) = wa19 at HA19 HP19 HB19 hHeld ⊢
        obtain ⟨g19, hg19⟩ : ∃ g, g = w4a.heap.size := ⟨_, rfl⟩
        rw [← hg19] at HP19
        simp only [← hg19]
        have HG19 := Lib.hid hg19
        clear hg19
        refine wpAnyH_take (i := 20) (v := Value.agg #[.int .i64 10, .string tx, .slice none 0 0, .slice (some ⟨g19, 0, none⟩) 1 1]) rfl (by kernel_rfl) (by kernel_rfl) (by kernel_rfl) (fun _ _ _ h => h) (Or.inl ⟨rfl, fun w' hw' => ?_⟩) hHeld ?_
        · go_simp
        simp only [List.getElem_toArray, List.getElem_cons_succ, List.getElem_cons_zero, Act.put, List.setIfInBounds_toArray, List.set_cons_zero, List.set_cons_succ]
        refine wpAnyH_ready (rs := [21, 24]) (by kernel_rfl) (by simp) ?_
        refine (AllReadyH.cons rfl (fun K hK => ?_) (AllReadyH.cons rfl (fun K hK => ?_) AllReadyH.nil))
        · skip
          go_simp
          refine (HP19.out _ (Below.refl _ _)).mono ?_
          rintro e wc21 ⟨rfl, hbq⟩
          have HB21 := Lib.hid hbq
          have HC21 : Hid (Below W.heap.size W wc21) := HA19.out.trans (hbq.mono HA19.out.size)
          clear hbq
          refine hK.out _ _ HC21.out (fun hHeld => ?_)
          clear hK K
          try simp only [List.getElem_toArray, List.getElem_cons_succ, List.getElem_cons_zero, Act.put, List.setIfInBounds_toArray, List.set_cons_zero, List.set_cons_succ]
          refine wpAnyH_ready (rs := [24]) (by kernel_rfl) (by simp) ?_
          refine (AllReadyH.cons rfl (fun K hK => ?_) AllReadyH.nil)
          go_simp
          have HA24 : Hid (Below W.heap.size W (wc21.alloc (.cells #[.int .i64 k0, .string t0, nv0, av0] 28))) := HC21.out.alloc HC21.out.size _
          have HP24 : Hid (∀ w'', Below (wc21.alloc (.cells #[.int .i64 k0, .string t0, nv0, av0] 28)).heap.size (wc21.alloc (.cells #[.int .i64 k0, .string t0, nv0, av0] 28)) w'' → Calls Try.prog 16 #[.agg #[.int .i64 10, .string tx, .slice none 0 0, .slice (some ⟨wc21.heap.size, 0, none⟩) 1 1]] w'' (RetBool c w'')) := fun w'' h => HQP.out wc21 w'' HC21.out h
          refine hK.out _ _ HA24.out (fun hHeld => ?_)
          clear hK K
          try simp only [List.getElem_toArray, List.getElem_cons_succ, List.getElem_cons_zero, Act.put, List.setIfInBounds_toArray, List.set_cons_zero, List.set_cons_succ]
          have HB24 : Hid (Below wc21.heap.size wc21 (wc21.alloc (.cells #[.int .i64 k0, .string t0, nv0, av0] 28))) := (Below.refl _ _).alloc (Nat.le_refl _) _
          generalize (wc21.alloc (.cells #[.int .i64 k0, .string t0, nv0, av0] 28)) = wa24 at HA24 HP24 HB24 hHeld ⊢
          obtain ⟨g24, hg24⟩ : ∃ g, g = wc21.heap.size := ⟨_, rfl⟩
          rw [← hg24] at HP24
          simp only [← hg24]
          have HG24 := Lib.hid hg24
          clear hg24
          refine wpAnyH_take (i := 25) (v := Value.agg #[.int .i64 10, .string tx, .slice none 0 0, .slice (some ⟨g24, 0, none⟩) 1 1]) rfl (by kernel_rfl) (by kernel_rfl) (by kernel_rfl) (fun _ _ _ h => h) (Or.inl ⟨rfl, fun w' hw' => ?_⟩) hHeld ?_
          · go_simp
          simp only [List.getElem_toArray, List.getElem_cons_succ, List.getElem_cons_zero, Act.put, List.setIfInBounds_toArray, List.set_cons_zero, List.set_cons_succ]
          refine wpAnyH_ready (rs := [26]) (by kernel_rfl) (by simp) ?_
          refine (AllReadyH.cons rfl (fun K hK => ?_) AllReadyH.nil)
          go_simp
          refine (HP24.out _ (Below.refl _ _)).mono ?_
          rintro e wc26 ⟨rfl, hbq⟩
          have HB26 := Lib.hid hbq
          have HC26 : Hid (Below W.heap.size W wc26) := HA24.out.trans (hbq.mono HA24.out.size)
          clear hbq
          refine hK.out _ _ HC26.out (fun hHeld => ?_)
          clear hK K
          try simp only [List.getElem_toArray, List.getElem_cons_succ, List.getElem_cons_zero, Act.put, List.setIfInBounds_toArray, List.set_cons_zero, List.set_cons_succ]
          refine wpAnyH_take (i := 27) (v := Value.bool true) rfl (by kernel_rfl) (by kernel_rfl) (by kernel_rfl) (fun _ _ _ h => h) (Or.inl ⟨rfl, fun w' hw' => ?_⟩) hHeld ?_
          · go_simp
          simp only [List.getElem_toArray, List.getElem_cons_succ, List.getElem_cons_zero, Act.put, List.setIfInBounds_toArray, List.set_cons_zero, List.set_cons_succ]
          refine wpAnyH_take (i := 28) (v := Value.bool true) rfl (by kernel_rfl) (by kernel_rfl) (by kernel_rfl) (fun _ _ _ h => h) (Or.inl ⟨rfl, fun w' hw' => ?_⟩) hHeld ?_
          · go_simp
          simp only [List.getElem_toArray, List.getElem_cons_succ, List.getElem_cons_zero, Act.put, List.setIfInBounds_toArray, List.set_cons_zero, List.set_cons_succ]
          refine wpAnyH_take (i := 29) (v := Value.bool true) rfl (by kernel_rfl) (by kernel_rfl) (by kernel_rfl) (fun _ _ _ h => h) (Or.inl ⟨rfl, fun w' hw' => ?_⟩) hHeld ?_
          · go_simp
          simp only [List.getElem_toArray, List.getElem_cons_succ, List.getElem_cons_zero, Act.put, List.setIfInBounds_toArray, List.set_cons_zero, List.set_cons_succ]
          refine wpAnyH_done (by kernel_rfl) ?_ _
          refine NoPanic.normal ?_
          clear hHeld
          go_wp2_with fail
          go_ret
          exact ⟨rfl, HB8.out.trans (HC26.out.mono HB8.out.size)⟩
        · skip
          go_simp
          have HA24 : Hid (Below W.heap.size W (wa19.alloc (.cells #[.int .i64 k0, .string t0, nv0, av0] 28))) := HA19.out.alloc HA19.out.size _
          have HP24 : Hid (∀ w'', Below (wa19.alloc (.cells #[.int .i64 k0, .string t0, nv0, av0] 28)).heap.size (wa19.alloc (.cells #[.int .i64 k0, .string t0, nv0, av0] 28)) w'' → Calls Try.prog 16 #[.agg #[.int .i64 10, .string tx, .slice none 0 0, .slice (some ⟨wa19.heap.size, 0, none⟩) 1 1]] w'' (RetBool c w'')) := fun w'' h => HQP.out wa19 w'' HA19.out h
          refine hK.out _ _ HA24.out (fun hHeld => ?_)
          clear hK K
          try simp only [List.getElem_toArray, List.getElem_cons_succ, List.getElem_cons_zero, Act.put, List.setIfInBounds_toArray, List.set_cons_zero, List.set_cons_succ]
          have HB24 : Hid (Below wa19.heap.size wa19 (wa19.alloc (.cells #[.int .i64 k0, .string t0, nv0, av0] 28))) := (Below.refl _ _).alloc (Nat.le_refl _) _
          generalize (wa19.alloc (.cells #[.int .i64 k0, .string t0, nv0, av0] 28)) = wa24 at HA24 HP24 HB24 hHeld ⊢
          obtain ⟨g24, hg24⟩ : ∃ g, g = wa19.heap.size := ⟨_, rfl⟩
          rw [← hg24] at HP24
          simp only [← hg24]
          have HG24 := Lib.hid hg24
          clear hg24
          refine wpAnyH_take (i := 25) (v := Value.agg #[.int .i64 10, .string tx, .slice none 0 0, .slice (some ⟨g24, 0, none⟩) 1 1]) rfl (by kernel_rfl) (by kernel_rfl) (by kernel_rfl) (fun _ _ _ h => h) (Or.inl ⟨rfl, fun w' hw' => ?_⟩) hHeld ?_
          · go_simp
          simp only [List.getElem_toArray, List.getElem_cons_succ, List.getElem_cons_zero, Act.put, List.setIfInBounds_toArray, List.set_cons_zero, List.set_cons_succ]
          refine wpAnyH_ready (rs := [21]) (by kernel_rfl) (by simp) ?_
          refine (AllReadyH.cons rfl (fun K hK => ?_) AllReadyH.nil)
          go_simp
          refine (HP19.out _ HB24.out).mono ?_
          rintro e wc21 ⟨rfl, hbq⟩
          have HB21 := Lib.hid hbq
          have HC21 : Hid (Below W.heap.size W wc21) := HA24.out.trans (hbq.mono HA24.out.size)
          clear hbq
          refine hK.out _ _ HC21.out (fun hHeld => ?_)
          clear hK K
          try simp only [List.getElem_toArray, List.getElem_cons_succ, List.getElem_cons_zero, Act.put, List.setIfInBounds_toArray, List.set_cons_zero, List.set_cons_succ]
          refine wpAnyH_ready (rs := [26]) (by kernel_rfl) (by simp) ?_
          refine (AllReadyH.cons rfl (fun K hK => ?_) AllReadyH.nil)
          go_simp
          refine (HP24.out _ HB21.out).mono ?_
          rintro e wc26 ⟨rfl, hbq⟩
          have HB26 := Lib.hid hbq
          have HC26 : Hid (Below W.heap.size W wc26) := HC21.out.trans (hbq.mono HC21.out.size)
          clear hbq
          refine hK.out _ _ HC26.out (fun hHeld => ?_)
          clear hK K
          try simp only [List.getElem_toArray, List.getElem_cons_succ, List.getElem_cons_zero, Act.put, List.setIfInBounds_toArray, List.set_cons_zero, List.set_cons_succ]
          refine wpAnyH_take (i := 27) (v := Value.bool true) rfl (by kernel_rfl) (by kernel_rfl) (by kernel_rfl) (fun _ _ _ h => h) (Or.inl ⟨rfl, fun w' hw' => ?_⟩) hHeld ?_
          · go_simp
          simp only [List.getElem_toArray, List.getElem_cons_succ, List.getElem_cons_zero, Act.put, List.setIfInBounds_toArray, List.set_cons_zero, List.set_cons_succ]
          refine wpAnyH_take (i := 28) (v := Value.bool true) rfl (by kernel_rfl) (by kernel_rfl) (by kernel_rfl) (fun _ _ _ h => h) (Or.inl ⟨rfl, fun w' hw' => ?_⟩) hHeld ?_
          · go_simp
          simp only [List.getElem_toArray, List.getElem_cons_succ, List.getElem_cons_zero, Act.put, List.setIfInBounds_toArray, List.set_cons_zero, List.set_cons_succ]
          refine wpAnyH_take (i := 29) (v := Value.bool true) rfl (by kernel_rfl) (by kernel_rfl) (by kernel_rfl) (fun _ _ _ h => h) (Or.inl ⟨rfl, fun w' hw' => ?_⟩) hHeld ?_
          · go_simp
          simp only [List.getElem_toArray, List.getElem_cons_succ, List.getElem_cons_zero, Act.put, List.setIfInBounds_toArray, List.set_cons_zero, List.set_cons_succ]
          refine wpAnyH_done (by kernel_rfl) ?_ _
          refine NoPanic.normal ?_
          clear hHeld
          go_wp2_with fail
          go_ret
          exact ⟨rfl, HB8.out.trans (HC26.out.mono HB8.out.size)⟩
      · skip
        go_simp
        have HA24 : Hid (Below W.heap.size W (w4a.alloc (.cells #[.int .i64 k0, .string t0, nv0, av0] 28))) := HS4.out.alloc HS4.out.size _
        have HP24 : Hid (∀ w'', Below (w4a.alloc (.cells #[.int .i64 k0, .string t0, nv0, av0] 28)).heap.size (w4a.alloc (.cells #[.int .i64 k0, .string t0, nv0, av0] 28)) w'' → Calls Try.prog 16 #[.agg #[.int .i64 10, .string tx, .slice none 0 0, .slice (some ⟨w4a.heap.size, 0, none⟩) 1 1]] w'' (RetBool c w'')) := fun w'' h => HQP.out w4a w'' HS4.out h
        refine hK.out _ _ HA24.out (fun hHeld => ?_)
        clear hK K
        try simp only [List.getElem_toArray, List.getElem_cons_succ, List.getElem_cons_zero, Act.put, List.setIfInBounds_toArray, List.set_cons_zero, List.set_cons_succ]
        have HB24 : Hid (Below w4a.heap.size w4a (w4a.alloc (.cells #[.int .i64 k0, .string t0, nv0, av0] 28))) := (Below.refl _ _).alloc (Nat.le_refl _) _
        generalize (w4a.alloc (.cells #[.int .i64 k0, .string t0, nv0, av0] 28)) = wa24 at HA24 HP24 HB24 hHeld ⊢
        obtain ⟨g24, hg24⟩ : ∃ g, g = w4a.heap.size := ⟨_, rfl⟩
        rw [← hg24] at HP24
        simp only [← hg24]
        have HG24 := Lib.hid hg24
        clear hg24
        refine wpAnyH_take (i := 25) (v := Value.agg #[.int .i64 10, .string tx, .slice none 0 0, .slice (some ⟨g24, 0, none⟩) 1 1]) rfl (by kernel_rfl) (by kernel_rfl) (by kernel_rfl) (fun _ _ _ h => h) (Or.inl ⟨rfl, fun w' hw' => ?_⟩) hHeld ?_
        · go_simp
        simp only [List.getElem_toArray, List.getElem_cons_succ, List.getElem_cons_zero, Act.put, List.setIfInBounds_toArray, List.set_cons_zero, List.set_cons_succ]
        refine wpAnyH_ready (rs := [19]) (by kernel_rfl) (by simp) ?_
        refine (AllReadyH.cons rfl (fun K hK => ?_) AllReadyH.nil)
        go_simp
        have HA19 : Hid (Below W.heap.size W (wa24.alloc (.cells #[.int .i64 k0, .string t0, nv0, av0] 28))) := HA24.out.alloc HA24.out.size _
        have HP19 : Hid (∀ w'', Below (wa24.alloc (.cells #[.int .i64 k0, .string t0, nv0, av0] 28)).heap.size (wa24.alloc (.cells #[.int .i64 k0, .string t0, nv0, av0] 28)) w'' → Calls Try.prog 15 #[.agg #[.int .i64 10, .string tx, .slice none 0 0, .slice (some ⟨wa24.heap.size, 0, none⟩) 1 1]] w'' (RetBool c w'')) := fun w'' h => HRP.out wa24 w'' HA24.out h
        refine hK.out _ _ HA19.out (fun hHeld => ?_)
        clear hK K
        try simp only [List.getElem_toArray, List.getElem_cons_succ, List.getElem_cons_zero, Act.put, List.setIfInBounds_toArray, List.set_cons_zero, List.set_cons_succ]
        have HB19 : Hid (Below wa24.heap.size wa24 (wa24.alloc (.cells #[.int .i64 k0, .string t0, nv0, av0] 28))) := (Below.refl _ _).alloc (Nat.le_refl _) _
        generalize (wa24.alloc (.cells #[.int .i64 k0, .string t0, nv0, av0] 28)) = wa19 at HA19 HP19 HB19 hHeld ⊢
        obtain ⟨g19, hg19⟩ : ∃ g, g = wa24.heap.size := ⟨_, rfl⟩
        rw [← hg19] at HP19
        simp only [← hg19]
        have HG19 := Lib.hid hg19
        clear hg19
        refine wpAnyH_take (i := 20) (v := Value.agg #[.int .i64 10, .string tx, .slice none 0 0, .slice (some ⟨g19, 0, none⟩) 1 1]) rfl (by kernel_rfl) (by kernel_rfl) (by kernel_rfl) (fun _ _ _ h => h) (Or.inl ⟨rfl, fun w' hw' => ?_⟩) hHeld ?_
        · go_simp
        simp only [List.getElem_toArray, List.getElem_cons_succ, List.getElem_cons_zero, Act.put, List.setIfInBounds_toArray, List.set_cons_zero, List.set_cons_succ]
        refine wpAnyH_ready (rs := [21]) (by kernel_rfl) (by simp) ?_
        refine (AllReadyH.cons rfl (fun K hK => ?_) AllReadyH.nil)
        go_simp
        refine (HP19.out _ (Below.refl _ _)).mono ?_
        rintro e wc21 ⟨rfl, hbq⟩
        have HB21 := Lib.hid hbq
        have HC21 : Hid (Below W.heap.size W wc21) := HA19.out.trans (hbq.mono HA19.out.size)
        clear hbq
        refine hK.out _ _ HC21.out (fun hHeld => ?_)
        clear hK K
        try simp only [List.getElem_toArray, List.getElem_cons_succ, List.getElem_cons_zero, Act.put, List.setIfInBounds_toArray, List.set_cons_zero, List.set_cons_succ]
        refine wpAnyH_ready (rs := [26]) (by kernel_rfl) (by simp) ?_
        refine (AllReadyH.cons rfl (fun K hK => ?_) AllReadyH.nil)
        go_simp
        refine (HP24.out _ (HB19.out.trans (HB21.out.mono HB19.out.size))).mono ?_
        rintro e wc26 ⟨rfl, hbq⟩
        have HB26 := Lib.hid hbq
        have HC26 : Hid (Below W.heap.size W wc26) := HC21.out.trans (hbq.mono HC21.out.size)
        clear hbq
        refine hK.out _ _ HC26.out (fun hHeld => ?_)
        clear hK K
        try simp only [List.getElem_toArray, List.getElem_cons_succ, List.getElem_cons_zero, Act.put, List.setIfInBounds_toArray, List.set_cons_zero, List.set_cons_succ]
        refine wpAnyH_take (i := 27) (v := Value.bool true) rfl (by kernel_rfl) (by kernel_rfl) (by kernel_rfl) (fun _ _ _ h => h) (Or.inl ⟨rfl, fun w' hw' => ?_⟩) hHeld ?_
        · go_simp
        simp only [List.getElem_toArray, List.getElem_cons_succ, List.getElem_cons_zero, Act.put, List.setIfInBounds_toArray, List.set_cons_zero, List.set_cons_succ]
        refine wpAnyH_take (i := 28) (v := Value.bool true) rfl (by kernel_rfl) (by kernel_rfl) (by kernel_rfl) (fun _ _ _ h => h) (Or.inl ⟨rfl, fun w' hw' => ?_⟩) hHeld ?_
        · go_simp
        simp only [List.getElem_toArray, List.getElem_cons_succ, List.getElem_cons_zero, Act.put, List.setIfInBounds_toArray, List.set_cons_zero, List.set_cons_succ]
        refine wpAnyH_take (i := 29) (v := Value.bool true) rfl (by kernel_rfl) (by kernel_rfl) (by kernel_rfl) (fun _ _ _ h => h) (Or.inl ⟨rfl, fun w' hw' => ?_⟩) hHeld ?_
        · go_simp
        simp only [List.getElem_toArray, List.getElem_cons_succ, List.getElem_cons_zero, Act.put, List.setIfInBounds_toArray, List.set_cons_zero, List.set_cons_succ]
        refine wpAnyH_done (by kernel_rfl) ?_ _
        refine NoPanic.normal ?_
        clear hHeld
        go_wp2_with fail
        go_ret
        exact ⟨rfl, HB8.out.trans (HC26.out.mono HB8.out.size)⟩
end Go.Proofs.Ytpkcoplpfenliaa
