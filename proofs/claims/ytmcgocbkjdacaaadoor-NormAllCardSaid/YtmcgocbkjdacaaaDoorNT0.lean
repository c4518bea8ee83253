/- norm's term: what its loop keeps. -/
import Derived.Test.YtmcgocbkjdacaaaDoorNV
import Derived.Test.YtmcgocbkjdacaaaDoorNX
import Derived.Test.YtmcgocbkjdacaaaDoorNW2
namespace Go.Proofs.YtmcgocbkjdacaaaDoor
open Go.RowKit Go.BigM
set_option linter.unusedVariables false
set_option linter.unusedSimpArgs false
/-- A row of names copied behind nil. -/
theorem wp_appN0 {o : Oper} {a : Act} {w : World} {K : Act → World → Prop} {Q : Exit → Act → World → Prop} (s x : Operand)
    (ho : o.op = .call { callee := .builtin .append, args := #[s, x], argTypes := #[25, 25] }) (B : Nat) (hs : a.eval s = .slice none 0 0)
    {S : Nat → Prop} (u : Value) (R : List ByteArray) (hx : a.eval x = u) (hu : NAt S w u R) (hb : R.length ≤ 100000) (hB : B ≤ w.heap.size)
    (h : ∀ v' w', OwnN B w' v' R → w.grownBy w' none → K (a.put o.dst v') w') : o.wp Tryd.prog a w K Q := by
  obtain ⟨i, hi, hz, hsz, hby⟩ := info_parts infoS
  rcases hu with ⟨rfl, rfl⟩ | ⟨g1, o1, cap, arr, fz, rfl, h1, h2, h3, h4⟩
  · have hr : (Builtin.append_ #[25, 25] o.type #[.slice none 0 0, .slice none 0 0]).run Tryd.prog w = .ok (.slice none 0 0) w := by
      simp [Builtin.append_, run_underlying Tryd.underlying25, sizeOf, typeInfo, zeroValue, hi, hz, Builtin.lenOf, Builtin.firstCells, go_sem]
    unfold Oper.wp execOp
    simp only [ho, resolve, invoke, builtin, Sem.run_bind, Sem.run_pure, Result.andThen_ok, List.map_toArray, List.map_cons, List.map_nil, hs, hx, hr]
    exact h _ _ (OwnN.nil B w) ⟨rfl, rfl, rfl, Nat.le_refl _, fun _ _ _ => rfl⟩
  · refine wp_append_own w s x 25 ho B 9 i (.string ⟨#[]⟩) 1 16 Tryd.underlying25 hi hz hsz hby rfl (by decide) _ 0 [] hs (World.ownsRow_nil _ _ _ _) ⟨g1, o1, none⟩ R.length cap (R.map Value.string) hx (by simp) (fun j t hj => ?_) (fun t ht => ?_) (by unfold maxLen; omega) (by omega) hB ?_
    · have hl : j < R.length := by
        rcases Nat.lt_or_ge j R.length with h | h
        · exact h
        · rw [List.getElem?_eq_none (by simpa using h)] at hj; cases hj
      rw [List.getElem?_map, List.getElem?_eq_getElem hl] at hj
      simp only [Option.map_some, Option.some.injEq] at hj
      subst hj
      have e2 : (⟨g1, o1, none⟩ : Addr).add j = ⟨g1, o1 + j, none⟩ := by unfold Addr.add; split <;> simp_all
      rw [e2, Lib.cell_of_heap h2]; exact h3 j hl
    · obtain ⟨_, _, rfl⟩ := List.mem_map.1 ht; rfl
    · intro v' w' h5 h6 _
      refine h v' w' ?_ h6
      unfold OwnN
      simpa using h5
/-- Blocks that neither row is. -/
def QN (av vv : Value) (x : Nat) : Prop := av.ownBlock ≠ some x ∧ vv.ownBlock ≠ some x
theorem But2.alloc {B g h : Nat} {a w : World} (k : But2 B g h a w) (hB : B ≤ w.heap.size) (o : Obj) : But2 B g h a (w.alloc o) := k.trans (But2.of (But.of ((Below.refl B w).alloc hB o)))
theorem But2.grown {B g h : Nat} {a w w' : World} {row : Option Nat} (k : But2 B g h a w) (hg : w.grownBy w' row) (hB : B ≤ w.heap.size) (hr : ∀ x, row = some x → B ≤ x) : But2 B g h a w' :=
  k.trans ⟨hg.os, hg.tape, hg.output, hg.size, fun x hx _ _ => hg.block x (by omega) (fun e => by have := hr x e.symm; omega)⟩
theorem But2.setRow {B g h : Nat} {a w : World} (k : But2 B g h a w) (x : Nat) (cs : Array Value) (hx : B ≤ x) : But2 B g h a (w.setRow x cs) :=
  k.trans ⟨rfl, rfl, rfl, by simp, fun i hi _ _ => setRow_other w x i cs (by omega)⟩
/-- Between a part's norming and its place in the row. -/
structure Mid (W0 : World) (g ge p9 : Nat) (k : Int) (t : ByteArray) (nv av vv : Value) (made : List Et) (vals : List (ByteArray × Et)) (m : Nat) (d : Et) (cs : Array Value) (wz : World) : Prop where
  own : OwnQ W0.heap.size (fun x => QN av vv x ∧ x ≠ p9) wz av made
  val : OwnV W0.heap.size (fun x => QN av vv x ∧ x ≠ p9) wz vv vals
  ap : ∀ x, av.ownBlock = some x → vv.ownBlock ≠ some x
  eb : EB wz ge k t nv av
  nk : Nk wz g m
  but : But2 W0.heap.size g ge W0 wz
  part : Et.At (fun x => W0.heap.size ≤ x ∧ QN av vv x ∧ x ≠ p9) wz d cs
  row : wz.heap[p9]? = some (.cells cs 28 (0, 0))
  hp : W0.heap.size ≤ p9 ∧ QN av vv p9
theorem Mid.of {W0 : World} {g ge : Nat} {k : Int} {t : ByteArray} {nv av vv : Value} {made : List Et} {vals : List (ByteArray × Et)} {m : Nat} {d : Et} {cs : Array Value} {wr w8 : World}
    (own : OwnQ W0.heap.size (QN av vv) wr av made) (val : OwnV W0.heap.size (QN av vv) wr vv vals) (ap : ∀ x, av.ownBlock = some x → vv.ownBlock ≠ some x) (eb : EB wr ge k t nv av)
    (but : But2 W0.heap.size g ge W0 wr) (hg : g < W0.heap.size) (hge : ge < W0.heap.size) (hne : ge ≠ g) (hb : But wr.heap.size g wr w8) (nk : Nk w8 g m) (part : Et.At (fun x => wr.heap.size < x) w8 d cs) (row : w8.heap[wr.heap.size]? = some (.cells cs 28 (0, 0))) :
    Mid W0 g ge wr.heap.size k t nv av vv made vals m d cs w8 := by
  have hs0 := but.size
  have hk : KX (fun x => x ≠ g) wr w8 := KX.of_but hb (fun x h => h)
  have hal : ∀ x, av.ownBlock = some x → W0.heap.size ≤ x ∧ x < wr.heap.size := fun x hx => own.lt hx
  have hvl : ∀ x, vv.ownBlock = some x → W0.heap.size ≤ x ∧ x < wr.heap.size := fun x hx => val.lt hx
  refine ⟨(own.mono (fun x h1 h2 h3 => ⟨h3, by omega⟩)).kx hk (fun x hx => by have := (hal x hx).1; omega) (fun x hx _ _ => by omega), (val.mono (fun x h1 h2 h3 => ⟨h3, by omega⟩)).kx hk (fun x hx => by have := (hvl x hx).1; omega) (fun x hx _ _ => by omega), ap, hk ge _ _ _ hne eb, nk, but.trans (But2.of (hb.mono hs0)), ?_, row, hs0, ?_, ?_⟩
  · exact Et.At.mono (fun x hx => by
      have hx' : wr.heap.size < x := hx
      exact ⟨by omega, ⟨fun e => by have := (hal x e).2; omega, fun e => by have := (hvl x e).2; omega⟩, by omega⟩) _ _ part
  · intro e; have := (hal _ e).2; omega
  · intro e; have := (hvl _ e).2; omega
theorem Mid.below {W0 : World} {g ge p9 : Nat} {k : Int} {t : ByteArray} {nv av vv : Value} {made : List Et} {vals : List (ByteArray × Et)} {m : Nat} {d : Et} {cs : Array Value} {wz w' : World}
    (M : Mid W0 g ge p9 k t nv av vv made vals m d cs wz) (hb : Below wz.heap.size wz w') : Mid W0 g ge p9 k t nv av vv made vals m d cs w' := by
  have hk : KX (fun _ => True) wz w' := KX.of_below hb
  exact ⟨M.own.kx hk (fun _ _ => trivial) (fun _ _ _ _ => trivial), M.val.kx hk (fun _ _ => trivial) (fun _ _ _ _ => trivial), M.ap, row_below hb M.eb, M.nk.below hb, M.but.trans (But2.of (But.of (hb.mono M.but.size))), Et.At.keeps (Keeps.of_below hb) _ _ M.part, row_below hb M.row, M.hp⟩
theorem Mid.lt {W0 : World} {g ge p9 : Nat} {k : Int} {t : ByteArray} {nv av vv : Value} {made : List Et} {vals : List (ByteArray × Et)} {m : Nat} {d : Et} {cs : Array Value} {wz : World}
    (M : Mid W0 g ge p9 k t nv av vv made vals m d cs wz) : p9 < wz.heap.size := (Array.getElem?_eq_some_iff.1 M.row).1
/-- The next name has been given. -/
theorem Mid.next {W0 : World} {g ge p9 : Nat} {k : Int} {t : ByteArray} {nv av vv : Value} {made : List Et} {vals : List (ByteArray × Et)} {m m' : Nat} {d : Et} {cs : Array Value} {wz w' : World}
    (M : Mid W0 g ge p9 k t nv av vv made vals m d cs wz) (hg : g < W0.heap.size) (hne : ge ≠ g) (hb : But wz.heap.size g wz w') (nk : Nk w' g m') : Mid W0 g ge p9 k t nv av vv made vals m' d cs w' := by
  have hk : KX (fun x => x ≠ g) wz w' := KX.of_but hb (fun x h => h)
  have hs := M.but.size
  refine ⟨M.own.kx hk (fun x hx => by have := (M.own.lt hx).1; omega) (fun x hx _ _ => by omega), M.val.kx hk (fun x hx => by have := (M.val.lt hx).1; omega) (fun x hx _ _ => by omega), M.ap, hk ge _ _ _ hne M.eb, nk, M.but.trans (But2.of (hb.mono hs)), ?_, hk p9 _ _ _ (by have := M.hp.1; omega) M.row, M.hp⟩
  exact Et.At.keeps (Keeps.trans (Keeps.refl _ _) ((hk.mono (T := fun x => W0.heap.size ≤ x ∧ QN av vv x ∧ x ≠ p9) (fun x hx => by have := hx.1; omega)).keeps)) _ _ M.part
/-- The value goes to its row. -/
theorem Mid.push {W0 : World} {g ge p9 : Nat} {k : Int} {t : ByteArray} {nv av vv : Value} {made : List Et} {vals : List (ByteArray × Et)} {m : Nat} {d : Et} {cs : Array Value} {w9 : World}
    (M : Mid W0 g ge p9 k t nv av vv made vals m d cs w9) (hg : g < W0.heap.size) (hge : ge < W0.heap.size) (h4 : cs.size = 4) (s : ByteArray) (R : Array Value) :
    ∃ xs, (w9.alloc (.cells R 75)).ownsRow W0.heap.size 75 5 vv vals.length xs ∧ W0.heap.size ≤ (w9.alloc (.cells R 75)).heap.size ∧
      ∀ vv' w11, w11.ownsRow W0.heap.size 75 5 vv' (vals.length + 1) (xs ++ (.string s :: cs.toList)) → (w9.alloc (.cells R 75)).grownBy w11 vv.ownBlock → (vv'.ownBlock = vv.ownBlock ∨ vv'.ownBlock = some (w9.alloc (.cells R 75)).heap.size) →
        But2 W0.heap.size g ge w9 w11 ∧ EB w11 ge k t nv av ∧ w11.heap[p9]? = some (.cells cs 28 (0, 0)) ∧ (∃ gv c, vv' = .slice (some ⟨gv, 0, none⟩) (vals.length + 1) c ∧ w11.cell? ⟨gv, vals.length * 5, none⟩ = some (.string s)) ∧
        Mid W0 g ge p9 k t nv av vv' made (vals ++ [(s, d)]) m (evar s) #[.int .i64 5, .string s, .slice none 0 0, .slice none 0 0] (w11.setRow p9 #[.int .i64 5, .string s, .slice none 0 0, .slice none 0 0]) := by
  have hb : Below w9.heap.size w9 (w9.alloc (.cells R 75)) := (Below.refl _ _).alloc (Nat.le_refl _) _
  have M1 := M.below hb
  have hs := M1.but.size
  obtain ⟨xs, ho, hd⟩ := M1.val
  refine ⟨xs, ho, hs, fun vv' w11 h11 hg11 hv11 => ?_⟩
  have hvl : ∀ x, vv.ownBlock = some x → W0.heap.size ≤ x ∧ x < (w9.alloc (.cells R 75)).heap.size := fun x hx => ho.lt x hx
  have hlen : xs.length = vals.length * 5 := ho.1
  have hp9 := M1.lt
  have hvq : ∀ x, x < (w9.alloc (.cells R 75)).heap.size → vv.ownBlock ≠ some x → vv'.ownBlock ≠ some x := by
    intro x hx h e
    rcases hv11 with hv | hv
    · exact h (hv.symm.trans e)
    · rw [hv] at e; injection e with e; omega
  have hk : KX (fun x => vv.ownBlock ≠ some x) (w9.alloc (.cells R 75)) w11 := KX.of_grown hg11 (fun x h => h)
  have hgev : vv.ownBlock ≠ some ge := fun e => by have := (hvl ge e).1; omega
  have hgv : vv.ownBlock ≠ some g := fun e => by have := (hvl g e).1; omega
  have hb11 : But2 W0.heap.size g ge w9 w11 := (But2.of (But.of (hb.mono M.but.size)) : But2 W0.heap.size g ge w9 (w9.alloc (.cells R 75))).grown hg11 hs (fun x hx => (hvl x hx).1)
  have hrow11 := hk p9 _ _ _ M1.hp.2.2 M1.row
  have heb11 := hk ge _ _ _ hgev M1.eb
  have hval : OwnV W0.heap.size (fun x => QN av vv' x ∧ x ≠ p9) w11 vv' (vals ++ [(s, d)]) :=
    OwnV.snoc hd hlen h4 M1.part h11 hg11 (fun x h1 h2 h3 => ⟨h3.1.2, ⟨h3.1.1, hvq x h2 h3.1.2⟩, h3.2⟩)
  have hown : OwnQ W0.heap.size (fun x => QN av vv' x ∧ x ≠ p9) w11 av made :=
    ((M1.own.mono (Q' := fun x => (QN av vv' x ∧ x ≠ p9) ∧ vv.ownBlock ≠ some x) (fun x h1 h2 h3 => ⟨⟨⟨h3.1.1, hvq x h2 h3.1.2⟩, h3.2⟩, h3.1.2⟩)).kx hk (fun x hx => M1.ap x hx) (fun x _ _ h => h.2)).mono (fun x _ _ h => h.1)
  have hap : ∀ x, av.ownBlock = some x → vv'.ownBlock ≠ some x := fun x hx => hvq x (M1.own.lt hx).2 (M1.ap x hx)
  have hka : KX (fun x => x ≠ p9) w11 (w11.setRow p9 #[.int .i64 5, .string s, .slice none 0 0, .slice none 0 0]) := (KX.refl _ _).setRow _ _ (fun x h => h)
  have hpB := M1.hp
  refine ⟨hb11, heb11, hrow11, ?_, ?_⟩
  · obtain ⟨ao, c, e⟩ := own_form h11
    rcases h11.2 with ⟨e2, e3⟩ | ⟨gv, cap, cur, e2, hB, hgv', hnc, hcm, hcs, htake⟩
    · simp at e3
    · refine ⟨gv, cap, e2, ?_⟩
      rw [Lib.cell_of_heap hgv']
      have h5 : (cur.toList.take ((vals.length + 1) * 5))[vals.length * 5]? = (xs ++ (.string s :: cs.toList))[vals.length * 5]? := by rw [htake]
      rw [List.getElem?_take, if_pos (by omega), List.getElem?_append_right (by omega), hlen, Nat.sub_self] at h5
      simpa using h5
  · have hown' := hown.kx hka (fun x hx e => hpB.2.1 (e ▸ hx)) (fun x _ _ h => h.2)
    have hval' := hval.kx hka (fun x hx e => hvq p9 hp9 hpB.2.2 (e ▸ hx)) (fun x _ _ h => h.2)
    refine ⟨hown', hval', hap, hka ge _ _ _ (by omega) heb11, ?_, (M.but.trans hb11).setRow p9 _ hpB.1, ?_, setRow_heap w11 p9 _ _ 28 _ hrow11, hpB.1, hpB.2.1, hvq p9 hp9 hpB.2.2⟩
    · unfold Nk
      rw [setRow_other w11 p9 g _ (by omega)]
      exact hk g _ _ _ hgv M1.nk
    · unfold evar
      rw [EAt_mk]
      exact ⟨_, _, rfl, .inl ⟨rfl, rfl⟩, .inl ⟨rfl, rfl⟩⟩
/-- The loop of norm's term. -/
def TInv (W0 : World) (g ge : Nat) (k : Int) (t : ByteArray) (nv : Value) (a : List Et) (n : Nat) (vv iv : Value) (wr : World) : Prop :=
  ∃ (j : Nat) (av : Value), j ≤ a.length ∧ iv = .int .i64 (j : Int) ∧ OwnQ W0.heap.size (QN av vv) wr av (Et.nrms k t n 0 (a.take j)).2.1 ∧ OwnV W0.heap.size (QN av vv) wr vv (Et.nrms k t n 0 (a.take j)).2.2 ∧
    (∀ x, av.ownBlock = some x → vv.ownBlock ≠ some x) ∧ EB wr ge k t nv av ∧ Nk wr g (Et.nrms k t n 0 (a.take j)).1 ∧ But2 W0.heap.size g ge W0 wr
/-- The part goes to the row of parts. -/
theorem Mid.app {W0 : World} {g ge p9 : Nat} {k : Int} {t : ByteArray} {nv av vv : Value} {made : List Et} {vals : List (ByteArray × Et)} {m : Nat} {d : Et} {cs : Array Value} {wz : World}
    (M : Mid W0 g ge p9 k t nv av vv made vals m d cs wz) (hg : g < W0.heap.size) (hge : ge < W0.heap.size) (hne : ge ≠ g) (h4 : cs.size = 4) :
    ∃ xs, (wz.alloc (.cells cs 28)).ownsRow W0.heap.size 28 4 av made.length xs ∧ W0.heap.size ≤ (wz.alloc (.cells cs 28)).heap.size ∧ (wz.alloc (.cells cs 28)).cell? ⟨ge, 3, none⟩ = some av ∧
      ∀ av' w9, w9.ownsRow W0.heap.size 28 4 av' (made.length + 1) (xs ++ cs.toList) → (wz.alloc (.cells cs 28)).grownBy w9 av.ownBlock → (av'.ownBlock = av.ownBlock ∨ av'.ownBlock = some (wz.alloc (.cells cs 28)).heap.size) →
        w9.cell? ⟨ge, 3, none⟩ = some av ∧ w9.frozen? ⟨ge, 3, none⟩ = false ∧
        (OwnQ W0.heap.size (QN av' vv) (w9.setCell ⟨ge, 3, none⟩ av') av' (made ++ [d]) ∧ OwnV W0.heap.size (QN av' vv) (w9.setCell ⟨ge, 3, none⟩ av') vv vals ∧ (∀ x, av'.ownBlock = some x → vv.ownBlock ≠ some x) ∧ EB (w9.setCell ⟨ge, 3, none⟩ av') ge k t nv av' ∧ Nk (w9.setCell ⟨ge, 3, none⟩ av') g m ∧ But2 W0.heap.size g ge W0 (w9.setCell ⟨ge, 3, none⟩ av')) := by
  have hb : Below wz.heap.size wz (wz.alloc (.cells cs 28)) := (Below.refl _ _).alloc (Nat.le_refl _) _
  have M1 := M.below hb
  have hs := M1.but.size
  obtain ⟨xs, ho, hd⟩ := M1.own
  refine ⟨xs, ho, hs, (EB.cell _ _ _ _ _ _ M1.eb).2.2.2, fun av' w9 h9 hg9 hv9 => ?_⟩
  have hal : ∀ x, av.ownBlock = some x → W0.heap.size ≤ x ∧ x < (wz.alloc (.cells cs 28)).heap.size := fun x hx => ho.lt x hx
  have haq : ∀ x, x < (wz.alloc (.cells cs 28)).heap.size → av.ownBlock ≠ some x → av'.ownBlock ≠ some x := by
    intro x hx h e
    rcases hv9 with hv | hv
    · exact h (hv.symm.trans e)
    · rw [hv] at e; injection e with e; omega
  have hk : KX (fun x => av.ownBlock ≠ some x) (wz.alloc (.cells cs 28)) w9 := KX.of_grown hg9 (fun x h => h)
  have hga : av.ownBlock ≠ some g := fun e => by have := (hal g e).1; omega
  have hgea : av.ownBlock ≠ some ge := fun e => by have := (hal ge e).1; omega
  have heb9 : EB w9 ge k t nv av := hk ge _ _ _ hgea M1.eb
  have hown : OwnQ W0.heap.size (QN av' vv) w9 av' (made ++ [d]) := OwnQ.snoc hd ho.1 h4 M1.part h9 hg9 (fun x h1 h2 h3 => ⟨h3.1.1, haq x h2 h3.1.1, h3.1.2⟩)
  have hval : OwnV W0.heap.size (QN av' vv) w9 vv vals :=
    ((M1.val.mono (Q' := fun x => QN av' vv x ∧ av.ownBlock ≠ some x) (fun x h1 h2 h3 => ⟨⟨haq x h2 h3.1.1, h3.1.2⟩, h3.1.1⟩)).kx hk (fun x hx e => M1.ap x e hx) (fun x _ _ h => h.2)).mono (fun x _ _ h => h.1)
  have hka : KX (fun x => x ≠ ge) w9 (w9.setCell ⟨ge, 3, none⟩ av') := (KX.refl _ _).setCell _ _ (fun x h => h)
  refine ⟨(EB.cell _ _ _ _ _ _ heb9).2.2.2, heb9.frozen 3, hown.kx hka (fun x hx => by have := (hown.lt hx).1; omega) (fun x hx _ _ => by omega), hval.kx hka (fun x hx => by have := (hval.lt hx).1; omega) (fun x hx _ _ => by omega), ?_, heb9.setA _, hka g _ _ _ (by omega) (hk g _ _ _ hga M1.nk), ?_⟩
  · intro x hx e
    have h1 := (M1.val.lt e).2
    exact haq x h1 (fun e2 => M1.ap x e2 e) hx
  · exact (M1.but.grown hg9 hs (fun x hx => (hal x hx).1)).setCell (p := ⟨ge, 3, none⟩) (.inr rfl) _
/-- What norm's term hands back. -/
def RetNrm (e : Et) (n g : Nat) (w : World) (r : Ending) (w' : World) : Prop :=
  ∃ cs, r = .returned (.agg cs) ∧ Et.At (fun x => w.heap.size ≤ x) w' (e.nrm n).2 cs ∧ Nk w' g (e.nrm n).1 ∧ But w.heap.size g w w'
def NC (e : Et) : Prop := ∀ (S : Nat → Prop) (cs : Array Value) (w : World) (g n : Nat), Et.At S w e cs → Nk w g n → 0 < g → Tab w → n + e.thick ≤ 100000 → Calls Tryd.prog 39 #[.pointer (some ⟨g, 0, none⟩), .agg cs] w (RetNrm e n g w)
end Go.Proofs.YtmcgocbkjdacaaaDoor
