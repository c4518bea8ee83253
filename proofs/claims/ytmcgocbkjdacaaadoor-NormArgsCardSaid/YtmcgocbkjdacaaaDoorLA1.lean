/- What the loop of NormArgs keeps. -/
import Derived.Test.YtmcgocbkjdacaaaDoorLA0
import Derived.Test.YtmcgocbkjdacaaaDoorNBd
import Derived.Test.YtmcgocbkjdacaaaDoorSH
namespace Go.Proofs.YtmcgocbkjdacaaaDoor
open Go.RowKit Go.BigM
set_option linter.unusedVariables false
set_option linter.unusedSimpArgs false
/-- The term that is made lies at ge, 1 at go; its parts and the names are rows of the call's own. -/
structure AInv (B : Nat) (wb : World) (ge go : Nat) (k : Int) (t : ByteArray) (wr : World) (av nv : Value) (ds : List Et) (nms : List ByteArray) : Prop where
  own : OwnQ B (fun x => av.ownBlock ≠ some x ∧ nv.ownBlock ≠ some x ∧ x ≠ ge) wr av ds
  nam : OwnN B wr nv nms
  ap : ∀ x, av.ownBlock = some x → x ≠ ge ∧ x ≠ go ∧ nv.ownBlock ≠ some x
  np : ∀ x, nv.ownBlock = some x → x ≠ ge ∧ x ≠ go
  eb : EB wr ge k t (.slice none 0 0) av
  one : EB wr go 1 ⟨#[49]⟩ (.slice none 0 0) (.slice none 0 0)
  ne : go ≠ ge
  hge : B ≤ ge
  bel : Below B wb wr
  hB : B ≤ wr.heap.size
theorem AInv.below {B : Nat} {wb : World} {ge go : Nat} {k : Int} {t : ByteArray} {wr w' : World} {av nv : Value} {ds : List Et} {nms : List ByteArray} (M : AInv B wb ge go k t wr av nv ds nms) (hb : Below wr.heap.size wr w') : AInv B wb ge go k t w' av nv ds nms := by
  have hk : KX (fun _ => True) wr w' := KX.of_below hb
  exact ⟨M.own.kx hk (fun _ _ => trivial) (fun _ _ _ _ => trivial), M.nam.below hb, M.ap, M.np, row_below hb M.eb, row_below hb M.one, M.ne, M.hge, M.bel.trans (hb.mono M.hB), Nat.le_trans M.hB hb.size⟩
theorem AInv.part {B : Nat} {wb : World} {ge go : Nat} {k : Int} {t : ByteArray} {wr wz : World} {av nv : Value} {ds : List Et} {nms : List ByteArray} (M : AInv B wb ge go k t wr av nv ds nms) (hb : Below wr.heap.size wr wz) {d : Et} {cs : Array Value}
    (hat : Et.At (fun x => wr.heap.size ≤ x) wz d cs) (h4 : cs.size = 4) :
    ∃ xs, (wz.alloc (.cells cs 28)).ownsRow B 28 4 av ds.length xs ∧ B ≤ (wz.alloc (.cells cs 28)).heap.size ∧ (wz.alloc (.cells cs 28)).cell? ⟨ge, 3, none⟩ = some av ∧
      ∀ av' w9, w9.ownsRow B 28 4 av' (ds.length + 1) (xs ++ cs.toList) → (wz.alloc (.cells cs 28)).grownBy w9 av.ownBlock → (av'.ownBlock = av.ownBlock ∨ av'.ownBlock = some (wz.alloc (.cells cs 28)).heap.size) →
        w9.cell? ⟨ge, 3, none⟩ = some av ∧ w9.frozen? ⟨ge, 3, none⟩ = false ∧ AInv B wb ge go k t (w9.setCell ⟨ge, 3, none⟩ av') av' nv (ds ++ [d]) nms := by
  have hbz : Below wr.heap.size wr (wz.alloc (.cells cs 28)) := hb.alloc hb.size _
  have M1 := M.below hbz
  have hav : ∀ x, av.ownBlock = some x → x < wr.heap.size := fun x hx => (M.own.lt hx).2
  have hnv : ∀ x, nv.ownBlock = some x → x < wr.heap.size := fun x hx => (M.nam.lt hx).2
  have hgl : ge < wr.heap.size := (Array.getElem?_eq_some_iff.1 M.eb).1
  have hs := hb.size
  obtain ⟨xs, ho, hd⟩ := M1.own
  refine ⟨xs, ho, M1.hB, (EB.cell _ _ _ _ _ _ M1.eb).2.2.2, fun av' w9 h9 hg9 hv9 => ?_⟩
  have hal : ∀ x, av.ownBlock = some x → B ≤ x ∧ x < (wz.alloc (.cells cs 28)).heap.size := fun x hx => ho.lt x hx
  have haq : ∀ x, x < (wz.alloc (.cells cs 28)).heap.size → av.ownBlock ≠ some x → av'.ownBlock ≠ some x := by
    intro x hx h e
    rcases hv9 with hv | hv
    · exact h (hv.symm.trans e)
    · rw [hv] at e; injection e with e; omega
  have hsz9 : (wz.alloc (.cells cs 28)).heap.size ≤ w9.heap.size := hg9.size
  have hk : KX (fun x => av.ownBlock ≠ some x) (wz.alloc (.cells cs 28)) w9 := KX.of_grown hg9 (fun x h => h)
  have hga : av.ownBlock ≠ some ge := fun e => (M.ap _ e).1 rfl
  have hgo : av.ownBlock ≠ some go := fun e => (M.ap _ e).2.1 rfl
  have hbz2 : (wz.alloc (.cells cs 28)).heap.size = wz.heap.size + 1 := by simp
  have hgol : go < wr.heap.size := (Array.getElem?_eq_some_iff.1 M.one).1
  have heb9 : EB w9 ge k t (.slice none 0 0) av := hk ge _ _ _ hga M1.eb
  have hpart : Et.At (fun x => B ≤ x ∧ (av.ownBlock ≠ some x ∧ nv.ownBlock ≠ some x ∧ x ≠ ge)) (wz.alloc (.cells cs 28)) d cs := by
    refine Et.At.mono (fun x hx => ?_) _ _ (Et.At.keeps (Keeps.of_below ((Below.refl _ _).alloc (Nat.le_refl _) (.cells cs 28))) _ _ hat)
    have hx' : wr.heap.size ≤ x := hx
    have := M.hB
    exact ⟨by omega, fun e => by have := hav x e; omega, fun e => by have := hnv x e; omega, by omega⟩
  have hown : OwnQ B (fun x => av'.ownBlock ≠ some x ∧ nv.ownBlock ≠ some x ∧ x ≠ ge) w9 av' (ds ++ [d]) :=
    OwnQ.snoc hd ho.1 h4 hpart h9 hg9 (fun x h1 h2 h3 => ⟨h3.1, haq x h2 h3.1, h3.2⟩)
  have hka : KX (fun x => x ≠ ge) w9 (w9.setCell ⟨ge, 3, none⟩ av') := (KX.refl _ _).setCell _ _ (fun x h => h)
  have hgl9 : ge < (wz.alloc (.cells cs 28)).heap.size := by omega
  have hgol9 : go < (wz.alloc (.cells cs 28)).heap.size := by omega
  have hap' : ∀ x, av'.ownBlock = some x → x ≠ ge ∧ x ≠ go ∧ nv.ownBlock ≠ some x := by
    intro x hx
    refine ⟨fun e => ?_, fun e => ?_, fun e => ?_⟩
    · subst e; exact haq _ hgl9 hga hx
    · subst e; exact haq _ hgol9 hgo hx
    · have hxl := hnv x e
      exact haq x (by omega) (fun e2 => (M.ap x e2).2.2 e) hx
  have hnam9 : OwnN B w9 nv nms := ownsRow_kx M1.nam hk (fun x hx e => (M.ap x e).2.2 hx)
  refine ⟨(EB.cell _ _ _ _ _ _ heb9).2.2.2, heb9.frozen 3, ⟨hown.kx hka (fun x hx => (hap' x hx).1) (fun x _ _ h => h.2.2), ownsRow_kx hnam9 hka (fun x hx => (M.np x hx).1), hap', M.np, heb9.setA _, hka go _ _ _ M.ne (hk go _ _ _ hgo M1.one), M.ne, M.hge, ?_, ?_⟩⟩
  · exact ((M1.bel).grown hg9 M1.hB (fun x hx => (hal x hx).1)).setCell (p := ⟨ge, 3, none⟩) M.hge _
  · have : (w9.setCell ⟨ge, 3, none⟩ av').heap.size = w9.heap.size := by simp [World.setCell]
    have := M1.hB
    omega
theorem AInv.name {B : Nat} {wb : World} {ge go : Nat} {k : Int} {t : ByteArray} {wr wz : World} {av nv : Value} {ds : List Et} {nms : List ByteArray} (M : AInv B wb ge go k t wr av nv ds nms) (hb : Below wr.heap.size wr wz) (s : ByteArray) :
    OwnN B (wz.alloc (.cells #[.string s] 9)) nv nms ∧ B ≤ (wz.alloc (.cells #[.string s] 9)).heap.size ∧ NAt (fun _ => True) (wz.alloc (.cells #[.string s] 9)) (.slice (some ⟨wz.heap.size, 0, none⟩) 1 1) [s] ∧
      ∀ nv' w9, OwnN B w9 nv' (nms ++ [s]) → Gr nv.ownBlock (wz.alloc (.cells #[.string s] 9)) w9 → Nxt nv.ownBlock nv'.ownBlock (wz.alloc (.cells #[.string s] 9)).heap.size → AInv B wb ge go k t w9 av nv' ds (nms ++ [s]) := by
  have hbz : Below wr.heap.size wr (wz.alloc (.cells #[.string s] 9)) := hb.alloc hb.size _
  have M1 := M.below hbz
  refine ⟨M1.nam, M1.hB, ?_, fun nv' w9 h9 hg9 hn9 => ?_⟩
  · refine .inr ⟨wz.heap.size, 0, 1, #[.string s], (0, 0), by simp, trivial, alloc_at wz _, ?_, by simp⟩
    intro j hj
    obtain rfl : j = 0 := by simpa using hj
    rfl
  have hnl : ∀ x, nv.ownBlock = some x → B ≤ x ∧ x < (wz.alloc (.cells #[.string s] 9)).heap.size := fun x hx => M1.nam.lt hx
  have hnq : ∀ x, x < (wz.alloc (.cells #[.string s] 9)).heap.size → nv.ownBlock ≠ some x → nv'.ownBlock ≠ some x := by
    intro x hx h e
    rcases hn9 with hv | hv
    · exact h (hv.symm.trans e)
    · have := hv x e; omega
  have hk : KX (fun x => nv.ownBlock ≠ some x) (wz.alloc (.cells #[.string s] 9)) w9 := fun x c T fz hs hx => hg9.row hx hs
  have hge : nv.ownBlock ≠ some ge := fun e => (M.np _ e).1 rfl
  have hgo : nv.ownBlock ≠ some go := fun e => (M.np _ e).2 rfl
  have hgl : ge < (wz.alloc (.cells #[.string s] 9)).heap.size := (Array.getElem?_eq_some_iff.1 M1.eb).1
  have hgol : go < (wz.alloc (.cells #[.string s] 9)).heap.size := (Array.getElem?_eq_some_iff.1 M1.one).1
  have hown : OwnQ B (fun x => av.ownBlock ≠ some x ∧ nv'.ownBlock ≠ some x ∧ x ≠ ge) w9 av ds :=
    ((M1.own.mono (Q' := fun x => (av.ownBlock ≠ some x ∧ nv'.ownBlock ≠ some x ∧ x ≠ ge) ∧ nv.ownBlock ≠ some x) (fun x h1 h2 h3 => ⟨⟨h3.1, hnq x h2 h3.2.1, h3.2.2⟩, h3.2.1⟩)).kx hk (fun x hx => (M1.ap x hx).2.2) (fun x _ _ h => h.2)).mono (fun x _ _ h => h.1)
  refine ⟨hown, h9, fun x hx => ⟨(M.ap x hx).1, (M.ap x hx).2.1, hnq x (M1.own.lt hx).2 (M.ap x hx).2.2⟩, fun x hx => ⟨fun e => ?_, fun e => ?_⟩, hk ge _ _ _ hge M1.eb, hk go _ _ _ hgo M1.one, M.ne, M.hge, ?_, Nat.le_trans M1.hB hg9.size⟩
  · subst e; exact hnq _ hgl hge hx
  · subst e; exact hnq _ hgol hgo hx
  · exact M1.bel.trans ⟨hg9.os, hg9.tape, hg9.output, hg9.size, fun x hx => hg9.block x (by have := M1.hB; omega) (fun e => by have := (hnl x e).1; omega)⟩
end Go.Proofs.YtmcgocbkjdacaaaDoor
