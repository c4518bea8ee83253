/- The document's Norm: what its loop keeps. -/
import Derived.Test.YtmcgocbkjdacaaaDoorNX2
import Derived.Test.YtmcgocbkjdacaaaDoorNT1
import Derived.Test.YtmcgocbkjdacaaaDoorNBd
import Derived.Test.YtmcgocbkjdacaaaDoorNI3
namespace Go.Proofs.YtmcgocbkjdacaaaDoor
open Go.RowKit Go.BigM
set_option linter.unusedVariables false
set_option linter.unusedSimpArgs false
/-- Blocks that no row is, nor p. -/
def RQ (av vv nm : Value) (p x : Nat) : Prop := av.ownBlock ≠ some x ∧ vv.ownBlock ≠ some x ∧ nm.ownBlock ≠ some x ∧ x ≠ p
/-- Between rounds. -/
structure RInv (W0 : World) (g ge : Nat) (k : Int) (t : ByteArray) (nv : Value) (wr : World) (av vv nm : Value) (made vals : List Et) (nms : List ByteArray) (m : Nat) : Prop where
  own : OwnQ W0.heap.size (RQ av vv nm ge) wr av made
  val : OwnQ W0.heap.size (RQ av vv nm ge) wr vv vals
  nam : OwnN W0.heap.size wr nm nms
  a1 : ∀ x, av.ownBlock = some x → vv.ownBlock ≠ some x ∧ nm.ownBlock ≠ some x
  a2 : ∀ x, vv.ownBlock = some x → nm.ownBlock ≠ some x
  eb : EB wr ge k t nv av
  cn : Rk wr g m
  but : But2 W0.heap.size g ge W0 wr
/-- Within a round: the part lies at p. -/
structure RMid (W0 : World) (g ge p : Nat) (k : Int) (t : ByteArray) (nv : Value) (wr : World) (av vv nm : Value) (made vals : List Et) (nms : List ByteArray) (m : Nat) (d : Et) (cs : Array Value) : Prop where
  own : OwnQ W0.heap.size (RQ av vv nm p) wr av made
  val : OwnQ W0.heap.size (RQ av vv nm p) wr vv vals
  nam : OwnN W0.heap.size wr nm nms
  a1 : ∀ x, av.ownBlock = some x → vv.ownBlock ≠ some x ∧ nm.ownBlock ≠ some x ∧ x ≠ p
  a2 : ∀ x, vv.ownBlock = some x → nm.ownBlock ≠ some x ∧ x ≠ p
  a3 : ∀ x, nm.ownBlock = some x → x ≠ p
  eb : EB wr ge k t nv av
  cn : Rk wr g m
  but : But2 W0.heap.size g ge W0 wr
  part : Et.At (fun x => W0.heap.size ≤ x ∧ RQ av vv nm p x) wr d cs
  row : wr.heap[p]? = some (.cells cs 28 (0, 0))
  hp : W0.heap.size ≤ p
section
variable {W0 : World} {g ge p : Nat} {k : Int} {t : ByteArray} {nv : Value} {wr w' : World} {av vv nm : Value} {made vals : List Et} {nms : List ByteArray} {m m' : Nat} {d : Et} {cs : Array Value}
/-- The part has been normed, and laid. -/
theorem RMid.of (M : RInv W0 g ge k t nv wr av vv nm made vals nms m) (hg : g < W0.heap.size) (hge : ge < W0.heap.size) (hne : ge ≠ g) (hb : But wr.heap.size g wr w') (hc : Rk w' g m')
    (hat : Et.At (fun x => wr.heap.size ≤ x) w' d cs) : RMid W0 g ge w'.heap.size k t nv (w'.alloc (.cells cs 28)) av vv nm made vals nms m' d cs := by
  have hs0 := M.but.size
  have hs1 := hb.size
  have hk : KX (fun x => x ≠ g) wr (w'.alloc (.cells cs 28)) := (KX.of_but hb (fun x h => h)).trans (KX.of_below ((Below.refl _ _).alloc (Nat.le_refl _) _))
  have hav : ∀ x, av.ownBlock = some x → W0.heap.size ≤ x ∧ x < wr.heap.size := fun x hx => M.own.lt hx
  have hvv : ∀ x, vv.ownBlock = some x → W0.heap.size ≤ x ∧ x < wr.heap.size := fun x hx => M.val.lt hx
  have hnm : ∀ x, nm.ownBlock = some x → W0.heap.size ≤ x ∧ x < wr.heap.size := fun x hx => M.nam.lt hx
  have ba : Below w'.heap.size w' (w'.alloc (.cells cs 28)) := (Below.refl _ _).alloc (Nat.le_refl _) _
  refine ⟨(M.own.mono (Q' := RQ av vv nm w'.heap.size) (fun x h1 h2 h3 => ⟨h3.1, h3.2.1, h3.2.2.1, by omega⟩)).kx hk (fun x hx => by have := (hav x hx).1; omega) (fun x hx _ _ => by omega),
    (M.val.mono (Q' := RQ av vv nm w'.heap.size) (fun x h1 h2 h3 => ⟨h3.1, h3.2.1, h3.2.2.1, by omega⟩)).kx hk (fun x hx => by have := (hvv x hx).1; omega) (fun x hx _ _ => by omega),
    ownsRow_kx M.nam hk (fun x hx => by have := (hnm x hx).1; omega), fun x hx => ⟨(M.a1 x hx).1, (M.a1 x hx).2, by have := (hav x hx).2; omega⟩, fun x hx => ⟨M.a2 x hx, by have := (hvv x hx).2; omega⟩, fun x hx => by have := (hnm x hx).2; omega,
    hk ge _ _ _ hne M.eb, hc.below ba, M.but.trans (But2.of ((hb.mono hs0).trans (But.of (ba.mono (by omega))))), ?_, alloc_at w' _, by omega⟩
  refine Et.At.mono (fun x hx => ?_) _ _ (Et.At.keeps (Keeps.of_below ba) _ _ (Et.At.bound _ _ hat))
  have h1 : wr.heap.size ≤ x := hx.1
  have h2 : x < w'.heap.size := hx.2
  exact ⟨by omega, fun e => by have := (hav x e).2; omega, fun e => by have := (hvv x e).2; omega, fun e => by have := (hnm x e).2; omega, by omega⟩
theorem RMid.lt (M : RMid W0 g ge p k t nv wr av vv nm made vals nms m d cs) : p < wr.heap.size := (Array.getElem?_eq_some_iff.1 M.row).1
theorem RMid.but2 (M : RMid W0 g ge p k t nv wr av vv nm made vals nms m d cs) (hg : g < W0.heap.size) (hne : ge ≠ g) (hb : But wr.heap.size g wr w') (hc : Rk w' g m') : RMid W0 g ge p k t nv w' av vv nm made vals nms m' d cs := by
  have hs0 := M.but.size
  have hk : KX (fun x => x ≠ g) wr w' := KX.of_but hb (fun x h => h)
  exact ⟨M.own.kx hk (fun x hx => by have := (M.own.lt hx).1; omega) (fun x hx _ _ => by omega), M.val.kx hk (fun x hx => by have := (M.val.lt hx).1; omega) (fun x hx _ _ => by omega),
    ownsRow_kx M.nam hk (fun x hx => by have := (M.nam.lt hx).1; omega), M.a1, M.a2, M.a3, hk ge _ _ _ hne M.eb, hc, M.but.trans (But2.of (hb.mono hs0)),
    Et.At.keeps ((hk.mono (T := fun x => W0.heap.size ≤ x ∧ RQ av vv nm p x) (fun x hx => by have := hx.1; omega)).keeps) _ _ M.part, hk p _ _ _ (by have := M.hp; omega) M.row, M.hp⟩
theorem RMid.below (M : RMid W0 g ge p k t nv wr av vv nm made vals nms m d cs) (hg : g < W0.heap.size) (hne : ge ≠ g) (hb : Below wr.heap.size wr w') : RMid W0 g ge p k t nv w' av vv nm made vals nms m d cs :=
  M.but2 hg hne (But.of hb) (M.cn.below hb)
/-- A name goes to the row of names. -/
theorem RMid.name (M : RMid W0 g ge p k t nv wr av vv nm made vals nms m d cs) (hg : g < W0.heap.size) (hge : ge < W0.heap.size) (s : ByteArray) {nm' : Value} (h9 : OwnN W0.heap.size w' nm' (nms ++ [s])) (hg9 : Gr nm.ownBlock wr w') (hn9 : Nxt nm.ownBlock nm'.ownBlock wr.heap.size) :
    RMid W0 g ge p k t nv w' av vv nm' made vals (nms ++ [s]) m d cs := by
  have hs0 := M.but.size
  have hnl : ∀ x, nm.ownBlock = some x → W0.heap.size ≤ x ∧ x < wr.heap.size := fun x hx => M.nam.lt hx
  have hnq : ∀ x, x < wr.heap.size → nm.ownBlock ≠ some x → nm'.ownBlock ≠ some x := by
    intro x hx h e
    rcases hn9 with hv | hv
    · exact h (hv.symm.trans e)
    · have := hv x e; omega
  have hk : KX (fun x => nm.ownBlock ≠ some x) wr w' := fun x c T fz hs hx => hg9.row hx hs
  have hpl := M.lt
  have up : ∀ x, W0.heap.size ≤ x → x < wr.heap.size → RQ av vv nm p x → RQ av vv nm' p x ∧ nm.ownBlock ≠ some x := fun x h1 h2 h3 => ⟨⟨h3.1, h3.2.1, hnq x h2 h3.2.2.1, h3.2.2.2⟩, h3.2.2.1⟩
  refine ⟨((M.own.mono (Q' := fun x => RQ av vv nm' p x ∧ nm.ownBlock ≠ some x) up).kx hk (fun x hx => (M.a1 x hx).2.1) (fun x _ _ h => h.2)).mono (fun x _ _ h => h.1),
    ((M.val.mono (Q' := fun x => RQ av vv nm' p x ∧ nm.ownBlock ≠ some x) up).kx hk (fun x hx => (M.a2 x hx).1) (fun x _ _ h => h.2)).mono (fun x _ _ h => h.1), h9,
    fun x hx => ⟨(M.a1 x hx).1, hnq x (M.own.lt hx).2 (M.a1 x hx).2.1, (M.a1 x hx).2.2⟩, fun x hx => ⟨hnq x (M.val.lt hx).2 (M.a2 x hx).1, (M.a2 x hx).2⟩, fun x hx e => ?_,
    hk ge _ _ _ (fun e => by have := (hnl ge e).1; omega) M.eb, ?_, M.but.trans ⟨hg9.os, hg9.tape, hg9.output, hg9.size, fun x hx _ _ => hg9.block x (by omega) (fun e => by have := (hnl x e).1; omega)⟩, ?_, hk p _ _ _ (fun e => M.a3 p e rfl) M.row, M.hp⟩
  · subst e; exact hnq _ hpl (fun e => M.a3 _ e rfl) hx
  · exact hk g _ _ _ (fun e => by have := (hnl g e).1; omega) M.cn
  · refine Et.At.mono (fun x hx => ⟨hx.1.1, (up x hx.1.1 hx.2 hx.1.2).1⟩) _ _ (Et.At.keeps ((hk.mono (T := fun x => (W0.heap.size ≤ x ∧ RQ av vv nm p x) ∧ x < wr.heap.size) (fun x hx => hx.1.2.2.2.1)).keeps) _ _ (Et.At.bound _ _ M.part))
/-- The part goes to the row of values. -/
theorem RMid.value (M : RMid W0 g ge p k t nv wr av vv nm made vals nms m d cs) (hg : g < W0.heap.size) (hge : ge < W0.heap.size) (hne : ge ≠ g) (h4 : cs.size = 4) :
    ∃ xs, wr.ownsRow W0.heap.size 28 4 vv vals.length xs ∧ W0.heap.size ≤ wr.heap.size ∧
      ∀ vv' w9, w9.ownsRow W0.heap.size 28 4 vv' (vals.length + 1) (xs ++ cs.toList) → wr.grownBy w9 vv.ownBlock → (vv'.ownBlock = vv.ownBlock ∨ vv'.ownBlock = some wr.heap.size) →
        RMid W0 g ge p k t nv w9 av vv' nm made (vals ++ [d]) nms m d cs := by
  have M1 := M
  have hs0 := M1.but.size
  obtain ⟨xs, ho, hd⟩ := M1.val
  refine ⟨xs, ho, hs0, fun vv' w9 h9 hg9 hv9 => ?_⟩
  have hvl : ∀ x, vv.ownBlock = some x → W0.heap.size ≤ x ∧ x < wr.heap.size := fun x hx => ho.lt x hx
  have hvq : ∀ x, x < wr.heap.size → vv.ownBlock ≠ some x → vv'.ownBlock ≠ some x := by
    intro x hx h e
    rcases hv9 with hv | hv
    · exact h (hv.symm.trans e)
    · rw [hv] at e; injection e with e; omega
  have hk : KX (fun x => vv.ownBlock ≠ some x) wr w9 := KX.of_grown hg9 (fun x h => h)
  have hpl := M1.lt
  have up : ∀ x, W0.heap.size ≤ x → x < wr.heap.size → RQ av vv nm p x → RQ av vv' nm p x ∧ vv.ownBlock ≠ some x := fun x h1 h2 h3 => ⟨⟨h3.1, hvq x h2 h3.2.1, h3.2.2⟩, h3.2.1⟩
  refine ⟨((M1.own.mono (Q' := fun x => RQ av vv' nm p x ∧ vv.ownBlock ≠ some x) up).kx hk (fun x hx => (M1.a1 x hx).1) (fun x _ _ h => h.2)).mono (fun x _ _ h => h.1),
    OwnQ.snoc hd ho.1 h4 M1.part h9 hg9 (fun x h1 h2 h3 => ⟨h3.2.1, (up x h1 h2 h3).1⟩), ownsRow_kx M1.nam hk (fun x hx e => (M1.a2 x e).1 hx),
    fun x hx => ⟨hvq x (M1.own.lt hx).2 (M1.a1 x hx).1, (M1.a1 x hx).2⟩, fun x hx => ⟨fun e => ?_, fun e => ?_⟩, M1.a3,
    hk ge _ _ _ (fun e => by have := (hvl ge e).1; omega) M1.eb, ?_, M1.but.grown hg9 hs0 (fun x hx => (hvl x hx).1), ?_, hk p _ _ _ (fun e => (M1.a2 p e).2 rfl) M1.row, M1.hp⟩
  · exact hvq x (M1.nam.lt e).2 (fun e2 => (M1.a2 x e2).1 e) hx
  · subst e; exact hvq _ hpl (fun e => (M1.a2 _ e).2 rfl) hx
  · exact hk g _ _ _ (fun e => by have := (hvl g e).1; omega) M1.cn
  · refine Et.At.mono (fun x hx => ⟨hx.1.1, (up x hx.1.1 hx.2 hx.1.2).1⟩) _ _ (Et.At.keeps ((hk.mono (T := fun x => (W0.heap.size ≤ x ∧ RQ av vv nm p x) ∧ x < wr.heap.size) (fun x hx => hx.1.2.2.1)).keeps) _ _ (Et.At.bound _ _ M1.part))
/-- The name's term stands in the part's place. -/
theorem RMid.setP (M : RMid W0 g ge p k t nv wr av vv nm made vals nms m d cs) (hg : g < W0.heap.size) (hge : ge < W0.heap.size) (s : ByteArray) :
    RMid W0 g ge p k t nv (wr.setRow p #[.int .i64 5, .string s, .slice none 0 0, .slice none 0 0]) av vv nm made vals nms m (evar s) #[.int .i64 5, .string s, .slice none 0 0, .slice none 0 0] := by
  have hp := M.hp
  have hk : KX (fun x => x ≠ p) wr (wr.setRow p #[.int .i64 5, .string s, .slice none 0 0, .slice none 0 0]) := (KX.refl _ _).setRow _ _ (fun x h => h)
  refine ⟨M.own.kx hk (fun x hx => (M.a1 x hx).2.2) (fun x _ _ h => h.2.2.2), M.val.kx hk (fun x hx => (M.a2 x hx).2) (fun x _ _ h => h.2.2.2), ownsRow_kx M.nam hk (fun x hx => M.a3 x hx), M.a1, M.a2, M.a3, hk ge _ _ _ (by omega) M.eb, ?_, M.but.setRow p _ hp, ?_, setRow_heap wr p _ _ 28 _ M.row, hp⟩
  · exact hk g _ _ _ (by omega) M.cn
  · unfold evar
    rw [EAt_mk]
    exact ⟨_, _, rfl, .inl ⟨rfl, rfl⟩, .inl ⟨rfl, rfl⟩⟩
/-- The part goes to the row of parts. -/
theorem RMid.app (M : RMid W0 g ge p k t nv wr av vv nm made vals nms m d cs) (hg : g < W0.heap.size) (hge : ge < W0.heap.size) (hne : ge ≠ g) (h4 : cs.size = 4) :
    ∃ xs, (wr.alloc (.cells cs 28)).ownsRow W0.heap.size 28 4 av made.length xs ∧ W0.heap.size ≤ (wr.alloc (.cells cs 28)).heap.size ∧ (wr.alloc (.cells cs 28)).cell? ⟨ge, 3, none⟩ = some av ∧
      ∀ av' w9, w9.ownsRow W0.heap.size 28 4 av' (made.length + 1) (xs ++ cs.toList) → (wr.alloc (.cells cs 28)).grownBy w9 av.ownBlock → (av'.ownBlock = av.ownBlock ∨ av'.ownBlock = some (wr.alloc (.cells cs 28)).heap.size) →
        w9.cell? ⟨ge, 3, none⟩ = some av ∧ w9.frozen? ⟨ge, 3, none⟩ = false ∧ RInv W0 g ge k t nv (w9.setCell ⟨ge, 3, none⟩ av') av' vv nm (made ++ [d]) vals nms m := by
  have hb : Below wr.heap.size wr (wr.alloc (.cells cs 28)) := (Below.refl _ _).alloc (Nat.le_refl _) _
  have M1 := M.below hg hne hb
  have hs0 := M1.but.size
  obtain ⟨xs, ho, hd⟩ := M1.own
  refine ⟨xs, ho, hs0, (EB.cell _ _ _ _ _ _ M1.eb).2.2.2, fun av' w9 h9 hg9 hv9 => ?_⟩
  have hal : ∀ x, av.ownBlock = some x → W0.heap.size ≤ x ∧ x < (wr.alloc (.cells cs 28)).heap.size := fun x hx => ho.lt x hx
  have haq : ∀ x, x < (wr.alloc (.cells cs 28)).heap.size → av.ownBlock ≠ some x → av'.ownBlock ≠ some x := by
    intro x hx h e
    rcases hv9 with hv | hv
    · exact h (hv.symm.trans e)
    · rw [hv] at e; injection e with e; omega
  have hk : KX (fun x => av.ownBlock ≠ some x) (wr.alloc (.cells cs 28)) w9 := KX.of_grown hg9 (fun x h => h)
  have hga : av.ownBlock ≠ some g := fun e => by have := (hal g e).1; omega
  have hgea : av.ownBlock ≠ some ge := fun e => by have := (hal ge e).1; omega
  have heb9 : EB w9 ge k t nv av := hk ge _ _ _ hgea M1.eb
  have up : ∀ x, W0.heap.size ≤ x → x < (wr.alloc (.cells cs 28)).heap.size → RQ av vv nm p x → RQ av' vv nm ge x ∧ av.ownBlock ≠ some x := fun x h1 h2 h3 => ⟨⟨haq x h2 h3.1, h3.2.1, h3.2.2.1, by omega⟩, h3.1⟩
  have hown : OwnQ W0.heap.size (RQ av' vv nm ge) w9 av' (made ++ [d]) := OwnQ.snoc hd ho.1 h4 M1.part h9 hg9 (fun x h1 h2 h3 => ⟨h3.1, (up x h1 h2 h3).1⟩)
  have hval : OwnQ W0.heap.size (RQ av' vv nm ge) w9 vv vals := ((M1.val.mono (Q' := fun x => RQ av' vv nm ge x ∧ av.ownBlock ≠ some x) up).kx hk (fun x hx e => (M1.a1 x e).1 hx) (fun x _ _ h => h.2)).mono (fun x _ _ h => h.1)
  have hnam : OwnN W0.heap.size w9 nm nms := ownsRow_kx M1.nam hk (fun x hx e => (M1.a1 x e).2.1 hx)
  have hka : KX (fun x => x ≠ ge) w9 (w9.setCell ⟨ge, 3, none⟩ av') := (KX.refl _ _).setCell _ _ (fun x h => h)
  refine ⟨(EB.cell _ _ _ _ _ _ heb9).2.2.2, heb9.frozen 3, ⟨hown.kx hka (fun x hx => by have := (hown.lt hx).1; omega) (fun x hx _ _ => by omega), hval.kx hka (fun x hx => by have := (hval.lt hx).1; omega) (fun x hx _ _ => by omega), ownsRow_kx hnam hka (fun x hx => by have := (hnam.lt hx).1; omega), fun x hx => ⟨fun e => ?_, fun e => ?_⟩, fun x hx => (M1.a2 x hx).1, heb9.setA _, hka g _ _ _ (by omega) (hk g _ _ _ hga M1.cn), ?_⟩⟩
  · exact haq x (M1.val.lt e).2 (fun e2 => (M1.a1 x e2).1 e) hx
  · exact haq x (M1.nam.lt e).2 (fun e2 => (M1.a1 x e2).2.1 e) hx
  · exact (M1.but.grown hg9 hs0 (fun x hx => (hal x hx).1)).setCell (p := ⟨ge, 3, none⟩) (.inr rfl) _
end
theorem wp_appNr {o : Oper} {a : Act} {w : World} {K : Act → World → Prop} {Q : Exit → Act → World → Prop} (s x : Operand)
    (ho : o.op = .call { callee := .builtin .append, args := #[s, x], argTypes := #[25, 25] }) (B : Nat) (v : Value) (L : List ByteArray) (hs : a.eval s = v) (hown : OwnN B w v L)
    {S : Nat → Prop} (u : Value) (R : List ByteArray) (hx : a.eval x = u) (hu : NAt S w u R) (hn : L.length + R.length ≤ 1000000) (hB : B ≤ w.heap.size) (hgd : o.guard = none)
    (h : ∀ v' w', OwnN B w' v' (L ++ R) → Gr v.ownBlock w w' → Nxt v.ownBlock v'.ownBlock w.heap.size → K (a.put o.dst v') w') : o.wp Tryd.prog a w K Q := by
  have key : ∃ v' w', (Builtin.append_ #[25, 25] o.type #[v, u]).run Tryd.prog w = .ok v' w' ∧ OwnN B w' v' (L ++ R) ∧ Gr v.ownBlock w w' ∧ Nxt v.ownBlock v'.ownBlock w.heap.size := by
    rcases hu with ⟨rfl, rfl⟩ | ⟨g1, o1, cap, arr, fz, rfl, h1, h2, h3, h4⟩
    · exact ⟨v, w, run_appE w B o.type v _ _ hown _ (.inl rfl), by rw [List.append_nil]; exact hown, Gr.below (Below.refl _ _), .inl rfl⟩
    · by_cases h0 : R.length = 0
      · have hR : R = [] := List.length_eq_zero_iff.1 h0
        subst hR
        exact ⟨v, w, run_appE w B o.type v _ _ hown _ (.inr ⟨_, _, rfl⟩), by rw [List.append_nil]; exact hown, Gr.below (Below.refl _ _), .inl rfl⟩
      · obtain ⟨v', w', hr, a1, a2, a3⟩ := run_appM w B o.type v L.length (L.map Value.string) hown ⟨g1, o1, none⟩ R.length cap (R.map Value.string) (by simp) (fun j t hj => by
            have hl : j < R.length := by
              rcases Nat.lt_or_ge j R.length with h | h
              · exact h
              · rw [List.getElem?_eq_none (by simpa using h)] at hj; cases hj
            rw [List.getElem?_map, List.getElem?_eq_getElem hl] at hj
            simp only [Option.map_some, Option.some.injEq] at hj
            subst hj
            have e2 : (⟨g1, o1, none⟩ : Addr).add j = ⟨g1, o1 + j, none⟩ := by unfold Addr.add; split <;> simp_all
            rw [e2, Lib.cell_of_heap h2]; exact h3 j hl) (fun t ht => by obtain ⟨_, _, rfl⟩ := List.mem_map.1 ht; rfl) (by omega) hn hB
        refine ⟨v', w', hr, ?_, Gr.of a2, ?_⟩
        · unfold OwnN
          rw [List.map_append, List.length_append]; exact a1
        · rcases a3 with a3 | a3
          · exact .inl a3
          · exact .inr fun k e => by rw [a3] at e; injection e with e; omega
  obtain ⟨v', w', hr, a1, a2, a3⟩ := key
  unfold Oper.wp execOp
  simp only [ho, resolve, invoke, builtin, Sem.run_bind, Sem.run_pure, Result.andThen_ok, List.map_toArray, List.map_cons, List.map_nil, hs, hx, hr]
  exact h _ _ a1 a2 a3
theorem wp_appT {o : Oper} {a : Act} {w : World} {K : Act → World → Prop} {Q : Exit → Act → World → Prop} (s x : Operand)
    (ho : o.op = .call { callee := .builtin .append, args := #[s, x], argTypes := #[26, 26] }) (B : Nat) (v : Value) (n : Nat) (xs : List Value) (hs : a.eval s = v) (hown : w.ownsRow B 28 4 v n xs)
    (g0 c : Nat) (hx : a.eval x = .slice (some ⟨g0, 0, none⟩) 1 c) (news : List Value) (hl : news.length = 4)
    (hnews : ∀ j u, news[j]? = some u → w.cell? ⟨g0, j, none⟩ = some u) (h1 : ∀ u ∈ news, u.oneCell' = true) (hn : n + 1 ≤ 1000000000) (hB : B ≤ w.heap.size)
    (h : ∀ v' w', w'.ownsRow B 28 4 v' (n + 1) (xs ++ news) → w.grownBy w' v.ownBlock → (v'.ownBlock = v.ownBlock ∨ v'.ownBlock = some w.heap.size) → K (a.put o.dst v') w') : o.wp Tryd.prog a w K Q := by
  obtain ⟨v', w', hr, h2, h3, h4⟩ := run_app w B o.type v n xs hown g0 c news hl hnews h1 hn hB
  unfold Oper.wp execOp
  simp only [ho, resolve, invoke, builtin, Sem.run_bind, Sem.run_pure, Result.andThen_ok, List.map_toArray, List.map_cons, List.map_nil, hs, hx, hr]
  exact h v' w' h2 h3 h4
theorem one_name (w : World) (s : ByteArray) : NAt (fun _ => True) (w.alloc (.cells #[.string s] 9)) (.slice (some ⟨w.heap.size, 0, none⟩) 1 1) [s] := by
  refine .inr ⟨w.heap.size, 0, 1, #[.string s], (0, 0), by simp, trivial, alloc_at w _, ?_, by simp⟩
  intro j hj
  obtain rfl : j = 0 := by simpa using hj
  rfl
/-- The loop of the document's Norm. -/
def RLoop (W0 : World) (g ge : Nat) (k : Int) (t : ByteArray) (nv : Value) (a : List Et) (n : Nat) (nmv vv iv : Value) (wr : World) : Prop :=
  ∃ (j : Nat) (av : Value), j ≤ a.length ∧ iv = .int .i64 (j : Int) ∧ RInv W0 g ge k t nv wr av vv nmv (Et.nrms k t n 0 (a.take j)).2.1 ((Et.nrms k t n 0 (a.take j)).2.2.map (·.2)) ((Et.nrms k t n 0 (a.take j)).2.2.map (·.1)) (Et.nrms k t n 0 (a.take j)).1
theorem RLoop.zero {W0 : World} {g ge : Nat} {k : Int} {t : ByteArray} {nv : Value} {a : List Et} {n : Nat} (he : EB W0 ge k t nv (.slice none 0 0)) (hn : Rk W0 g n) : RLoop W0 g ge k t nv a n (.slice none 0 0) (.slice none 0 0) (.int .i64 0) W0 := by
  refine ⟨0, .slice none 0 0, Nat.zero_le _, rfl, ?_⟩
  rw [List.take_zero, nrms_nil]
  exact ⟨OwnQ.nil _ _ _, OwnQ.nil _ _ _, OwnN.nil _ _, fun x hx => (by cases hx), fun x hx => (by cases hx), he, hn, But2.refl _ _ _ _⟩
/-- The second loop: the lets go around, the last one first. -/
def RLet (ps : List (ByteArray × Et)) (b : Et) (B ge : Nat) (W : World) (iv : Value) (wr : World) : Prop :=
  ∃ (i : Nat) (cs : Array Value), i ≤ ps.length ∧ iv = .int .i64 (i : Int) ∧ wr.heap[ge]? = some (.cells cs 28 (0, 0)) ∧ Et.At (fun x => B ≤ x ∧ x ≠ ge) wr (lets (ps.drop i) b) cs ∧ But W.heap.size ge W wr
theorem lets_drop (ps : List (ByteArray × Et)) (i : Nat) (h1 : 1 ≤ i) (h : i ≤ ps.length) (b : Et) : lets (ps.drop (i - 1)) b = ebind (ps[i - 1]'(by omega)).1 (ps[i - 1]'(by omega)).2 (lets (ps.drop i) b) := by
  have hlt : i - 1 < ps.length := by omega
  rw [List.drop_eq_getElem_cons hlt, show i - 1 + 1 = i by omega]
  rfl
/-- What the document's Norm hands back. -/
def RetRn (e : Et) (n g : Nat) (w : World) (r : Ending) (w' : World) : Prop :=
  ∃ cs, r = .returned (.agg cs) ∧ Et.At (fun x => w.heap.size ≤ x) w' (e.nrm n).2 cs ∧ Rk w' g (e.nrm n).1 ∧ But w.heap.size g w w'
def RNC (e : Et) : Prop := ∀ (S : Nat → Prop) (cs : Array Value) (w : World) (g n : Nat), Et.At S w e cs → Rk w g n → n + e.thick ≤ 100000 → Calls Tryd.prog 40 #[.pointer (some ⟨g, 0, none⟩), .agg cs] w (RetRn e n g w)
theorem wrap_nat (q : Nat) (h : q ≤ 1000000) : IntKind.i64.wrap (q : Int) = (q : Int) := by rw [IntKind.wrap_i64]; omega
theorem rn_end {w W1 W2 wr w5 : World} {g ge gr n : Nat} {e : Et} (hb1 : Below w.heap.size w W1) (hb0 : Below W1.heap.size W1 W2) (hbut : But2 W2.heap.size g ge W2 wr) (hbx : But wr.heap.size ge wr w5) (hgr : w.heap.size ≤ gr) (hgr1 : gr < W1.heap.size) (hge : W1.heap.size ≤ ge) (hgw : g < w.heap.size)
    (hcn : Rk wr g (e.nrm n).1) {cs : Array Value} (hat : Et.At (fun x => W1.heap.size ≤ x ∧ x ≠ ge) w5 (e.nrm n).2 cs) : RetRn e n g w (.returned (.agg cs)) (w5.setRow gr cs) := by
  have h1 := hb1.size
  have h0 := hb0.size
  have h2 := hbut.size
  refine ⟨cs, rfl, ?_, ?_, ?_⟩
  · refine Et.At.mono (fun x hx => ?_) _ _ (Et.At.keeps (S := fun x => W1.heap.size ≤ x ∧ x ≠ ge) (fun x c T fz hx hxx _ => ⟨fz, by rw [setRow_other w5 gr x _ (by have := hx.1; omega)]; exact hxx⟩) _ _ hat)
    have := hx.1
    omega
  · unfold Rk
    rw [setRow_other w5 gr g _ (by omega), hbx.block g (by omega) (by omega)]; exact hcn
  · have h3 : But w.heap.size g w wr := ((But.of (hb1.trans (hb0.mono h1))) : But w.heap.size g w W2).trans (hbut.to (by omega) (by omega))
    exact h3.trans ⟨hbx.os, hbx.tape, hbx.output, by simpa using hbx.size, fun x hx hne => by rw [setRow_other w5 gr x _ (by omega)]; exact hbx.block x (by omega) (by omega)⟩
end Go.Proofs.YtmcgocbkjdacaaaDoor
