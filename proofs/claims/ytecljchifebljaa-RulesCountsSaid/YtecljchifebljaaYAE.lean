/- The document's reader: a datum into what is done, into what is open; one more open, one less. -/
import Derived.Test.YtecljchifebljaaYAD
set_option linter.unusedVariables false
set_option linter.unusedSimpArgs false
namespace Go.Proofs.Ytecljchifebljaa
open Go.RowKit Go.BigM
theorem below_grown {g : Nat} {w wa w9 : World} {row : Option Nat} (h : Below g w wa) (hg : wa.grownBy w9 row) (hs : g ≤ wa.heap.size) (hr : ∀ x, row = some x → g ≤ x) : Below g w w9 :=
 ⟨hg.os.trans h.os, hg.tape.trans h.tape, hg.output.trans h.output, by have := hg.size; have := h.size; omega, fun k hk => by rw [hg.block k (by omega) (fun e => by have := hr k e.symm; omega), h.block k hk]⟩
theorem RdAt.outp {D D1 : Nat → Prop} {N : Nat} {wa : World} {g : Nat} {s : ByteArray} {p : Nat} {es : List En} {out : List Dt} {d : Dt} {cs : Array Value} (h : RdAt D N wa g s p es out) (hD1 : ∀ x, D x → D1 x) (hD2 : ∀ x, D1 x → D x ∨ N ≤ x ∧ x < wa.heap.size) (hgN : g < N) (h5 : cs.size = 5) (hd : Dt.At D1 wa d cs) :
  ∃ ov dv xs, Rs3 wa g s p ov dv ∧ wa.ownsRow (g + 1) 29 5 dv out.length xs ∧ ∀ v' w9, w9.ownsRow (g + 1) 29 5 v' (out.length + 1) (xs ++ cs.toList) → wa.grownBy w9 dv.ownBlock → (v'.ownBlock = dv.ownBlock ∨ ∃ b, v'.ownBlock = some b ∧ wa.heap.size ≤ b ∧ b < w9.heap.size) →
   RdAt D1 w9.heap.size (w9.setCell ⟨g, 3, none⟩ v') g s p es (out ++ [d]) := by
 obtain ⟨ov, dv, ys, hR, ho, hdv, hD, hN, h1, h2, hE⟩ := h
 have hdd : ∀ x, D1 x → dv.ownBlock ≠ some x := fun x hx e => by
  rcases hD2 x hx with h | h
  ·exact (h2 x e).2.1 h
  ·have := (h2 x e).1; omega
 obtain ⟨xs, hxs, hmore⟩ := hdv.more hD1 hdd h5 hd
 refine ⟨ov, dv, xs, hR, hxs, fun v' w9 h9 hg hv => ?_⟩
 have hs9 := hg.size
 have hnew := hmore v' w9 h9 hg
 have old : ∀ x, x < wa.heap.size → dv.ownBlock ≠ some x → w9.heap[x]? = wa.heap[x]? := fun x hx hn => hg.block x hx (fun e => hn e.symm)
 have hgd : dv.ownBlock ≠ some g := fun e => by have := (hdv.lt e).1; omega
 have hR9 : Rs3 w9 g s p ov dv := by unfold Rs3 at hR ⊢; rw [old g (by omega) hgd]; exact hR
 have ho9 : w9.ownsRow (g + 1) 137 3 ov es.length ys := ownsRow_keep ho (fun x hx => old x (by have := (h1 x hx).1; omega) (fun e => (h2 x e).2.2 hx))
 have hvB : ∀ x, v'.ownBlock = some x → x < w9.heap.size ∧ ¬ D1 x ∧ ov.ownBlock ≠ some x := fun x hx => by
  rcases hv with e | ⟨b, e, hb1, hb2⟩
  ·rw [e] at hx
   exact ⟨by have := (h2 x hx).1; omega, fun h => hdd x h hx, (h2 x hx).2.2⟩
  ·rw [e] at hx
   injection hx with hx
   subst hx
   refine ⟨hb2, fun h => ?_, fun e => by have := (h1 b e).1; omega⟩
   rcases hD2 b h with h | h
   ·have := (hD b h).2; omega
   ·omega
 have hDN : ∀ x, D x → g + 1 ≤ x ∧ x < N := hD
 have hE9 : Opens D1 (g + 1) w9.heap.size w9 ys es (fun x => (D1 x ∨ ov.ownBlock = some x) ∨ v'.ownBlock = some x) := by
  have a1 : Opens D (g + 1) N wa ys es (fun x => ((D1 x ∨ ov.ownBlock = some x) ∨ v'.ownBlock = some x) ∨ dv.ownBlock = some x) := Opens.fresh (fun _ h => h) (Nat.le_refl _) es _ _ hE (fun x hx hU => by
   rcases hU with ((h | h) | h) | h
   ·rcases hD2 x h with h | h
    ·exact .inl (.inl h)
    ·omega
   ·exact .inl (.inr h)
   ·rcases hv with e | ⟨b, e, hb1, _⟩
    ·exact .inr (e.symm.trans h)
    ·rw [e] at h; injection h with h; omega
   ·exact .inr h)
  have a2 : Opens D (g + 1) N w9 ys es (fun x => ((D1 x ∨ ov.ownBlock = some x) ∨ v'.ownBlock = some x) ∨ dv.ownBlock = some x) := Opens.move hD es _ a1 (fun _ _ => rfl) (fun x _ hx hU => old x (by omega) (fun e => by
   rcases hU with h | h
   ·exact (h2 x e).2.1 h
   ·exact h (.inr e)))
  exact Opens.fresh hD1 (by omega) es _ _ a2 (fun x _ h => .inl h)
 have hD9 : ∀ x, D1 x → g + 1 ≤ x ∧ x < w9.heap.size := fun x hx => by
  rcases hD2 x hx with h | h
  ·have := hD x h; omega
  ·omega
 refine RdAt.own ho9 hnew hD9 (fun x hx => ⟨by have := (h1 x hx).1; omega, fun h => ?_⟩) hvB hE9 ?_ (fun x hx _ => Below.heap_setCell w9 _ _ x (by show x ≠ g; omega)) (by simp [World.setCell])
 ·rcases hD2 x h with h' | h'
  ·exact (h1 x hx).2 h'
  ·have := (h1 x hx).1; omega
 ·have := heap_setCell_same w9 g 3 _ 114 v' hR9
  unfold Rs3
  rw [this]; rfl
theorem slice_own (g o n c : Nat) : (Value.slice (some ⟨g, o, none⟩) n c).ownBlock = some g := rfl
/-- The innermost that is open. -/
theorem RdAt.top {D : Nat → Prop} {N : Nat} {w : World} {g : Nat} {s : ByteArray} {p : Nat} {e : En} {r : List En} {out : List Dt} (h : RdAt D N w g s p (e :: r) out) (hgN : g < N) :
  ∃ og c arr lv dv, Rs3 w g s p (.slice (some ⟨og, 0, none⟩) (r.length + 1) c) dv ∧ r.length + 1 ≤ c ∧ c ≤ maxLen ∧ g + 1 ≤ og ∧ og < N ∧ w.heap[og]? = some (.cells arr 137 (0, 0)) ∧ arr.size = c * 3 ∧
   (arr[r.length * 3]? = some (.bool e.q) ∧ arr[r.length * 3 + 1]? = some (.int .i64 e.pl) ∧ arr[r.length * 3 + 2]? = some lv) ∧ (∃ lo lc, lv = .slice lo (if e.q = true then [] else e.ds).length lc) ∧
   (e.q = true → e.ds = [.mk 3 qT [] [] e.pl]) ∧ (∀ x, lv.ownBlock = some x → g + 1 ≤ x ∧ x < N ∧ x ≠ og) ∧
   RdAt (fun x => D x ∨ lv.ownBlock = some x) N (w.setCell ⟨g, 2, none⟩ (.slice (some ⟨og, 0, none⟩) r.length c)) g s p r out ∧
   (e.q = false → LAt (fun x => D x ∨ lv.ownBlock = some x) w lv e.ds) ∧
   (e.q = false → ∀ (wa : World) (D1 : Nat → Prop) (d : Dt) (cs : Array Value), (∀ x, g ≤ x → x < N → wa.heap[x]? = w.heap[x]?) → N ≤ wa.heap.size → (∀ x, D x → D1 x) → (∀ x, D1 x → D x ∨ N ≤ x ∧ x < wa.heap.size) → cs.size = 5 → Dt.At D1 wa d cs →
    ∃ xs, wa.ownsRow (g + 1) 29 5 lv e.ds.length xs ∧ ∀ v' w9, w9.ownsRow (g + 1) 29 5 v' (e.ds.length + 1) (xs ++ cs.toList) → wa.grownBy w9 lv.ownBlock → (v'.ownBlock = lv.ownBlock ∨ ∃ b, v'.ownBlock = some b ∧ wa.heap.size ≤ b ∧ b < w9.heap.size) →
     RdAt D1 w9.heap.size (w9.setCell ⟨og, r.length * 3 + 2, none⟩ v') g s p (e.add d :: r) out) := by
 obtain ⟨ov, dv, xs, hR, ho, hd, hD, hN, h1, h2, hE⟩ := h
 simp only [List.length_cons] at ho
 rcases ho.2 with ⟨_, hz⟩ | ⟨og, c, cur, rfl, hB, hh, hnc, hcm, hcs, ht⟩
 ·exact absurd hz (by omega)
 have hog := h1 og rfl
 have hxl : xs.length = (r.length + 1) * 3 := ho.1
 have hx : ∀ i, i < (r.length + 1) * 3 → cur[i]? = xs[i]? := fun i hi => by
  rw [← ht, List.getElem?_take, if_pos hi]; simp
 have hE0 := hE
 obtain ⟨lv, ⟨c0, c1, c2⟩, hl, hq, hu, hr⟩ := hE
 have hlf : ∃ lo lc, lv = .slice lo (if e.q = true then [] else e.ds).length lc := by
  obtain ⟨ys, hy, _⟩ := hl
  obtain ⟨ao, cc, e2⟩ := row_form hy (by decide)
  exact ⟨ao, cc, e2⟩
 have hlB : ∀ x, lv.ownBlock = some x → g + 1 ≤ x ∧ x < N ∧ x ≠ og := fun x hx => ⟨(hl.lt hx).1, (hu x hx).1, fun e => (hu x hx).2 (.inl (.inr (by rw [e]; rfl)))⟩
 refine ⟨og, c, cur, lv, dv, hR, hnc, hcm, hB, hog.1, hh, hcs, ⟨by rw [hx _ (by omega)]; exact c0, by rw [hx _ (by omega)]; exact c1, by rw [hx _ (by omega)]; exact c2⟩, hlf, hq, hlB, ?_, ?_, ?_⟩
 ·-- one less
  have h9 : ∀ x, g + 1 ≤ x → (w.setCell ⟨g, 2, none⟩ (.slice (some ⟨og, 0, none⟩) r.length c)).heap[x]? = w.heap[x]? := fun x hx => Below.heap_setCell w _ _ x (by show x ≠ g; omega)
  have ho2 : w.ownsRow (g + 1) 137 3 (.slice (some ⟨og, 0, none⟩) r.length c) r.length (xs.take (r.length * 3)) := by
   refine ⟨by rw [List.length_take]; omega, .inr ⟨og, c, cur, rfl, hB, hh, by omega, hcm, hcs, ?_⟩⟩
   rw [← ht, List.take_take]; congr 1; omega
  have hE2 : Opens (fun x => D x ∨ lv.ownBlock = some x) (g + 1) N w (xs.take (r.length * 3)) r (fun x => ((D x ∨ lv.ownBlock = some x) ∨ some og = some x) ∨ dv.ownBlock = some x) := by
   have a1 : Opens D (g + 1) N w (xs.take (r.length * 3)) r _ := Opens.move hD r _ hr (fun i hi => by rw [List.getElem?_take, if_pos hi]) (fun _ _ _ _ => rfl)
   refine Opens.fresh (fun x h => .inl h) (Nat.le_refl _) r _ _ a1 (fun x _ h => ?_)
   rcases h with ((h | h) | h) | h
   ·exact .inl (.inl (.inl h))
   ·exact .inr h
   ·exact .inl (.inl (.inr h))
   ·exact .inl (.inr h)
  refine RdAt.own (ov := .slice (some ⟨og, 0, none⟩) r.length c) (dv := dv) ho2 (hd.mono (fun x h => .inl h)) (fun x hx => ?_) (fun x hx => ⟨(h1 x hx).1, fun h => ?_⟩) (fun x hx => ⟨(h2 x hx).1, fun h => ?_, (h2 x hx).2.2⟩) hE2 ?_ (fun x hx _ => h9 x hx) (by simp [World.setCell]; exact hN)
  ·rcases hx with h | h
   ·exact hD x h
   ·exact ⟨(hlB x h).1, (hlB x h).2.1⟩
  ·rcases h with h | h
   ·exact (h1 x hx).2 h
   ·rw [slice_own] at hx; injection hx with hx; exact (hlB x h).2.2 hx.symm
  ·rcases h with h | h
   ·exact (h2 x hx).2.1 h
   ·exact (hu x h).2 (.inr hx)
  ·have := heap_setCell_same w g 2 _ 114 (.slice (some ⟨og, 0, none⟩) r.length c) hR
   unfold Rs3
   rw [this]; rfl
 ·intro hqf
  rw [hqf] at hl
  exact hl.lat
 ·intro hqf wa D1 d cs hk hNa hD1 hD2 h5 hdat
  rw [hqf] at hl
  simp only [Bool.false_eq_true, if_false] at hl
  have hla : OwnS D (g + 1) wa lv e.ds := hl.keep (fun x c hx hh => by rw [hk x (by have := (hlB x hx).1; omega) (hlB x hx).2.1]; exact hh) (fun x c T fz hDx hh _ => ⟨fz, by rw [hk x (by have := (hD x hDx).1; omega) (hD x hDx).2]; exact hh⟩)
  have hll : ∀ x, D1 x → lv.ownBlock ≠ some x := fun x hx e => by
   rcases hD2 x hx with h | h
   ·exact (hu x e).2 (.inl (.inl h))
   ·have := (hu x e).1; omega
  obtain ⟨zs, hzs, hmore⟩ := hla.more hD1 hll h5 hdat
  refine ⟨zs, hzs, fun v' w9 h9 hg hv => ?_⟩
  have hs9 := hg.size
  have hnew := hmore v' w9 h9 hg
  have old : ∀ x, g ≤ x → x < N → lv.ownBlock ≠ some x → w9.heap[x]? = w.heap[x]? := fun x hx hxN hn => (hg.block x (by omega) (fun e => hn e.symm)).trans (hk x hx hxN)
  have hvB : ∀ x, v'.ownBlock = some x → g + 1 ≤ x ∧ x < w9.heap.size ∧ ¬ D1 x ∧ (x < N → lv.ownBlock = some x) := fun x hx => by
   rcases hv with e | ⟨b, e, hb1, hb2⟩
   ·rw [e] at hx
    exact ⟨(hlB x hx).1, by have := (hlB x hx).2.1; omega, fun h => hll x h hx, fun _ => hx⟩
   ·rw [e] at hx
    injection hx with hx
    subst hx
    refine ⟨by omega, hb2, fun h => ?_, fun h => by omega⟩
    rcases hD2 b h with h | h
    ·have := (hD b h).2; omega
    ·omega
  obtain ⟨W, hW⟩ : ∃ W, W = w9.setCell ⟨og, r.length * 3 + 2, none⟩ v' := ⟨_, rfl⟩
  have hWx : ∀ x, x ≠ og → W.heap[x]? = w9.heap[x]? := fun x hx => by rw [hW]; exact Below.heap_setCell w9 _ _ x hx
  have hWo : W.heap[og]? = some (.cells (cur.setIfInBounds (r.length * 3 + 2) v') 137 (0, 0)) := by
   rw [hW]
   refine heap_setCell_same w9 og _ cur 137 v' ?_
   rw [old og (by omega) hog.1 (fun e => (hlB og e).2.2 rfl)]; exact hh
  have hWs : W.heap.size = w9.heap.size := by rw [hW]; simp [World.setCell]
  rw [← hW]
  have x3 : ∀ i, i ≠ r.length * 3 + 2 → (xs.set (r.length * 3 + 2) v')[i]? = xs[i]? := fun i hi => by rw [List.getElem?_set_ne (fun e => hi e.symm)]
  have hoW : W.ownsRow (g + 1) 137 3 (.slice (some ⟨og, 0, none⟩) (r.length + 1) c) (r.length + 1) (xs.set (r.length * 3 + 2) v') := by
   refine ⟨by simp [hxl], .inr ⟨og, c, _, rfl, hB, hWo, hnc, hcm, by simp [hcs], ?_⟩⟩
   rw [← ht]
   apply List.ext_getElem?
   intro i
   simp only [Array.toList_setIfInBounds, List.getElem?_take, List.getElem?_set, List.length_take]
   by_cases k1 : i < (r.length + 1) * 3
   ·have k4 : r.length * 3 + 2 < cur.toList.length := by simp [hcs]; omega
    simp only [k1, if_true]
    by_cases k2 : r.length * 3 + 2 = i
    ·simp only [k2, if_true]
     rw [if_pos (by omega), if_pos (by omega)]
    ·simp [k2]
   ·simp only [k1, if_false]
    rw [if_neg (by omega)]
  have hdW : OwnS D1 (g + 1) W dv out := by
   refine OwnS.mono (hd.keep (fun x c hx hh => ?_) (fun x c T fz hDx hh _ => ⟨fz, ?_⟩)) hD1
   ·rw [hWx x (fun e => (h2 x hx).2.2 (by rw [e]; rfl)), old x (by have := (hd.lt hx).1; omega) (h2 x hx).1 (fun e => (hu x e).2 (.inr hx))]; exact hh
   ·rw [hWx x (fun e => hog.2 (e ▸ hDx)), old x (by have := (hD x hDx).1; omega) (hD x hDx).2 (fun e => (hu x e).2 (.inl (.inl hDx)))]; exact hh
  have hD9 : ∀ x, D1 x → g + 1 ≤ x ∧ x < W.heap.size := fun x hx => by
   rcases hD2 x hx with h | h
   ·have := hD x h; omega
   ·omega
  have hnog : ¬ D1 og := fun h => by
   rcases hD2 og h with h | h
   ·exact hog.2 h
   ·omega
  have hRW : Rs3 W g s p (.slice (some ⟨og, 0, none⟩) (r.length + 1) c) dv := by
   unfold Rs3 at hR ⊢
   rw [hWx g (by omega), old g (Nat.le_refl _) hgN (fun e => by have := (hlB g e).1; omega)]; exact hR
  refine ⟨_, dv, _, hRW, hoW, hdW, (by rw [← hWs]; exact hD9), by omega, fun x hx => ?_, fun x hx => ⟨by have := (h2 x hx).1; omega, fun h => ?_, (h2 x hx).2.2⟩, ?_⟩
  ·rw [slice_own] at hx
   injection hx with hx
   subst hx
   exact ⟨by omega, hnog⟩
  ·rcases hD2 x h with h' | h'
   ·exact (h2 x hx).2.1 h'
   ·have := (h2 x hx).1; omega
  ·refine ⟨v', ⟨by rw [x3 _ (by omega)]; exact c0, by rw [x3 _ (by omega)]; exact c1, by rw [List.getElem?_set_self (by omega)]⟩, ?_, fun h => ?_, fun x hx => ⟨(hvB x hx).2.1, fun h => ?_⟩, ?_⟩
   ·have hqa : (e.add d).q = false := hqf
    rw [hqa]
    simp only [Bool.false_eq_true, if_false]
    refine hnew.keep (fun x c hx hh => ?_) (fun x c T fz hDx hh _ => ⟨fz, ?_⟩)
    ·rw [hWx x (fun e => ?_)]; exact hh
     rw [e] at hx
     exact (hlB og ((hvB og hx).2.2.2 hog.1)).2.2 rfl
    ·rw [hWx x (fun e => hnog (e ▸ hDx))]; exact hh
   ·have : e.q = true := h
    rw [hqf] at this; cases this
   ·rcases h with (h | h) | h
    ·exact (hvB x hx).2.2.1 h
    ·rw [slice_own] at h
     injection h with h
     subst h
     exact (hlB og ((hvB og hx).2.2.2 hog.1)).2.2 rfl
    ·exact (hu x ((hvB x hx).2.2.2 (h2 x h).1)).2 (.inr h)
   ·-- the others
    have a1 : Opens D (g + 1) N w xs r (fun x => (((D1 x ∨ some og = some x) ∨ dv.ownBlock = some x) ∨ v'.ownBlock = some x) ∨ lv.ownBlock = some x) := Opens.fresh (fun _ h => h) (Nat.le_refl _) r _ _ hr (fun x hx hU => by
     rcases hU with (((h | h) | h) | h) | h
     ·rcases hD2 x h with h | h
      ·exact .inl (.inl (.inl h))
      ·omega
     ·exact .inl (.inl (.inr h))
     ·exact .inl (.inr h)
     ·exact .inr ((hvB x h).2.2.2 hx)
     ·exact .inr h)
    have a2 : Opens D (g + 1) N W (xs.set (r.length * 3 + 2) v') r _ := Opens.move hD r _ a1 (fun i hi => x3 i (by omega)) (fun x hx hxN hU => by
     rw [hWx x (fun e => ?_), old x (by omega) hxN (fun e => ?_)]
     ·rcases hU with h | h
      ·exact (hu x e).2 (.inl (.inl h))
      ·exact h (.inr e)
     ·rcases hU with h | h
      ·exact hog.2 (e ▸ h)
      ·exact h (.inl (.inl (.inl (.inr (by rw [e]))))))
    exact Opens.fresh hD1 (by omega) r _ _ a2 (fun x _ h => .inl h)
/-- One more is open. -/
theorem RdAt.push {D : Nat → Prop} {N : Nat} {wa : World} {g : Nat} {s : ByteArray} {p : Nat} {es : List En} {out : List Dt} (h : RdAt D N wa g s p es out) (hgN : g < N) (e : En) (hds : e.ds = if e.q = true then [.mk 3 qT [] [] e.pl] else []) :
  ∃ ov dv xs, Rs3 wa g s p ov dv ∧ wa.ownsRow (g + 1) 137 3 ov es.length xs ∧ ∀ v' w9, w9.ownsRow (g + 1) 137 3 v' (es.length + 1) (xs ++ [.bool e.q, .int .i64 e.pl, .slice none 0 0]) → wa.grownBy w9 ov.ownBlock → (v'.ownBlock = ov.ownBlock ∨ ∃ b, v'.ownBlock = some b ∧ wa.heap.size ≤ b ∧ b < w9.heap.size) →
   RdAt D w9.heap.size (w9.setCell ⟨g, 2, none⟩ v') g s p (e :: es) out := by
 obtain ⟨ov, dv, ys, hR, ho, hd, hD, hN, h1, h2, hE⟩ := h
 refine ⟨ov, dv, ys, hR, ho, fun v' w9 h9 hg hv => ?_⟩
 have hs9 := hg.size
 have hyl : ys.length = es.length * 3 := ho.1
 have old : ∀ x, x < wa.heap.size → ov.ownBlock ≠ some x → w9.heap[x]? = wa.heap[x]? := fun x hx hn => hg.block x hx (fun e => hn e.symm)
 have hgo : ov.ownBlock ≠ some g := fun e => by have := (ho.lt g e).1; omega
 have hR9 : Rs3 w9 g s p ov dv := by unfold Rs3 at hR ⊢; rw [old g (by omega) hgo]; exact hR
 have hvB : ∀ x, v'.ownBlock = some x → x < w9.heap.size ∧ ¬ D x ∧ (x < N → ov.ownBlock = some x) := fun x hx => by
  rcases hv with e | ⟨b, e, hb1, hb2⟩
  ·rw [e] at hx
   exact ⟨by have := (h1 x hx).1; omega, (h1 x hx).2, fun _ => hx⟩
  ·rw [e] at hx
   injection hx with hx
   subst hx
   exact ⟨hb2, fun h => by have := (hD b h).2; omega, fun h => by omega⟩
 have hd9 : OwnS D (g + 1) w9 dv out := hd.keep (fun x c hx hh => by rw [old x (by have := (h2 x hx).1; omega) (h2 x hx).2.2]; exact hh) (fun x c T fz hDx hh _ => ⟨fz, by rw [old x (by have := (hD x hDx).2; omega) (fun e => (h1 x e).2 hDx)]; exact hh⟩)
 have get : ∀ i u, ([.bool e.q, .int .i64 e.pl, .slice none 0 0] : List Value)[i]? = some u → (ys ++ [.bool e.q, .int .i64 e.pl, .slice none 0 0])[es.length * 3 + i]? = some u := fun i u hu => by
  rw [List.getElem?_append_right (by omega), show es.length * 3 + i - ys.length = i by omega]; exact hu
 have hE9 : Opens D (g + 1) w9.heap.size w9 (ys ++ [.bool e.q, .int .i64 e.pl, .slice none 0 0]) (e :: es) (fun x => (D x ∨ v'.ownBlock = some x) ∨ dv.ownBlock = some x) := by
  refine ⟨.slice none 0 0, ⟨get 0 _ rfl, get 1 _ rfl, get 2 _ rfl⟩, ?_, fun h => by rw [hds, if_pos h], nofun, ?_⟩
  ·have : (if e.q = true then [] else e.ds) = ([] : List Dt) := by
    split
    ·rfl
    ·rename_i hq; rw [hds, if_neg hq]
   rw [this]; exact OwnS.nil _ _ _
  ·have a1 : Opens D (g + 1) N wa ys es (fun x => ((D x ∨ v'.ownBlock = some x) ∨ dv.ownBlock = some x) ∨ ov.ownBlock = some x) := Opens.fresh (fun _ h => h) (Nat.le_refl _) es _ _ hE (fun x hx hU => by
    rcases hU with ((h | h) | h) | h
    ·exact .inl (.inl h)
    ·exact .inl (.inr ((hvB x h).2.2 hx))
    ·exact .inr h
    ·exact .inl (.inr h))
   have a2 : Opens D (g + 1) N w9 (ys ++ [.bool e.q, .int .i64 e.pl, .slice none 0 0]) es _ := Opens.move hD es _ a1 (fun i hi => by rw [List.getElem?_append_left (by omega)]) (fun x _ hx hU => old x (by omega) (fun e => by
    rcases hU with h | h
    ·exact (h1 x e).2 h
    ·exact h (.inr e)))
   exact Opens.fresh (fun _ h => h) (by omega) es _ _ a2 (fun x _ h => by
    rcases h with h | h
    ·exact .inl h
    ·exact absurd h (by simp [Value.ownBlock]))
 refine RdAt.own h9 hd9 (fun x hx => ⟨(hD x hx).1, by have := (hD x hx).2; omega⟩) (fun x hx => ⟨(hvB x hx).1, (hvB x hx).2.1⟩) (fun x hx => ⟨by have := (h2 x hx).1; omega, (h2 x hx).2.1, fun e => (h2 x hx).2.2 ((hvB x e).2.2 (h2 x hx).1)⟩) hE9 ?_ (fun x hx _ => Below.heap_setCell w9 _ _ x (by show x ≠ g; omega)) (by simp [World.setCell])
 have := heap_setCell_same w9 g 2 _ 114 v' hR9
 unfold Rs3
 rw [this]; rfl
theorem RdAt.start (w : World) (s : ByteArray) : RdAt (fun _ => False) (w.heap.size + 1) (w.alloc (.cells #[.string s, .int .i64 0, .slice none 0 0, .slice none 0 0] 114)) w.heap.size s 0 [] [] :=
 ⟨_, _, [], alloc_at w _, World.ownsRow_nil _ _ _ _, OwnS.nil _ _ _, nofun, by simp, nofun, nofun, trivial⟩
/-- The last of a row is written over. -/
theorem row_last {w : World} {B g' n c' : Nat} {xs zs : List Value} (h : w.ownsRow B 29 5 (.slice (some ⟨g', 0, none⟩) (n + 1) c') (n + 1) (xs ++ zs)) (hz : zs.length = 5) (a b c d e : Value) :
  w.there g' (n * 5) 5 ∧ (w.setCells g' (n * 5) [a, b, c, d, e]).ownsRow B 29 5 (.slice (some ⟨g', 0, none⟩) (n + 1) c') (n + 1) (xs ++ [a, b, c, d, e]) := by
 have hl : xs.length = n * 5 := by have := h.1; rw [List.length_append, hz] at this; omega
 rcases h.2 with ⟨e1, _⟩ | ⟨g1, cap, cur, e1, hB, hh, hnc, hcm, hcs, ht⟩
 ·cases e1
 injection e1 with e1 _ e3
 injection e1 with e1
 injection e1 with e1 _ _
 subst e1 e3
 refine ⟨there_of_row hh (by rw [hcs]; omega), by simp [hl]; omega, .inr ⟨g', c', _, rfl, hB, setCells5 w g' (n * 5) cur 29 a b c d e hh, hnc, hcm, by rw [put5_size]; exact hcs, put5_take hl hz ht (by rw [hcs]; omega) _ _ _ _ _⟩⟩
end Go.Proofs.Ytecljchifebljaa
namespace Go.Proofs.Ytecljchifebljaa
open Go.RowKit Go.BigM
theorem setCell_swap (w : World) (g o : Nat) (v : Value) (g' o' : Nat) (u : Value) (h : g ≠ g') : (w.setCell ⟨g, o, none⟩ v).setCell ⟨g', o', none⟩ u = (w.setCell ⟨g', o', none⟩ u).setCell ⟨g, o, none⟩ v := by
 simp only [World.setCell, World.mk.injEq, and_true]
 apply Array.ext_getElem?
 intro k
 simp only [Array.getElem?_modify]
 by_cases h1 : g = k
 ·subst h1
  have h3 : ¬ g' = g := fun e => h e.symm
  simp [h3]
 ·by_cases h2 : g' = k
  ·subst h2
   simp [h1]
  ·simp [h1, h2]
theorem setCells_swap (g o : Nat) (v : Value) (g' : Nat) (h : g ≠ g') : ∀ (cs : List Value) (o' : Nat) (w : World), (w.setCell ⟨g, o, none⟩ v).setCells g' o' cs = (w.setCells g' o' cs).setCell ⟨g, o, none⟩ v
 | [], _, _ => rfl
 | c :: cs, o', w => by
  simp only [World.setCells]
  rw [setCell_swap w g o v g' o' c h]
  exact setCells_swap g o v g' h cs (o' + 1) _
theorem setCells5_os (w : World) (g o : Nat) (a b c d e : Value) : (w.setCells g o [a, b, c, d, e]).os = w.os := by simp only [World.setCells, World.setCell]
theorem setCells5_tape (w : World) (g o : Nat) (a b c d e : Value) : (w.setCells g o [a, b, c, d, e]).tape = w.tape := by simp only [World.setCells, World.setCell]
theorem setCells5_output (w : World) (g o : Nat) (a b c d e : Value) : (w.setCells g o [a, b, c, d, e]).output = w.output := by simp only [World.setCells, World.setCell]
def RetPut (g : Nat) (s : ByteArray) (p : Nat) (r : List En × List Dt) (w : World) (e : Ending) (w' : World) : Prop :=
 e = .returned (.tuple #[]) ∧ Below g w w' ∧ w.heap.size ≤ w'.heap.size ∧ ∃ D', RdAt D' w'.heap.size w' g s p r.1 r.2
theorem At_slices {S : Nat → Prop} {w : World} {d : Dt} {cs : Array Value} (h : Dt.At S w d cs) : ∃ k t mo mn mc lo ln lc p, cs = #[.int .i64 k, .string t, .slice mo mn mc, .slice lo ln lc, .int .i64 p] := by
 obtain ⟨k, t, ms, l, p⟩ := d
 rw [At_mk] at h
 obtain ⟨mv, lv, e, hm, hl⟩ := h
 obtain ⟨lo, lc, rfl⟩ := hl.form
 rcases hm with ⟨rfl, _⟩ | ⟨g, o, cap, arr, fz, rfl, _⟩
 ·exact ⟨_, _, _, _, _, _, _, _, _, e⟩
 ·exact ⟨_, _, _, _, _, _, _, _, _, e⟩
/-- A datum into what is done. -/
theorem outp_step {D : Nat → Prop} {N : Nat} {w WD : World} {g : Nat} {s : ByteArray} {p : Nat} {es : List En} {out : List Dt} {d : Dt} {k : Int} {t : ByteArray} {mv lv : Value} {pl : Int} (h : RdAt D N WD g s p es out) (hgN : g < N) (hN : N + 1 ≤ WD.heap.size)
  (hd : Dt.At (fun x => D x ∨ N + 1 ≤ x) WD d #[.int .i64 k, .string t, mv, lv, .int .i64 pl]) (hx : Boxed N #[.int .i64 k, .string t, mv, lv, .int .i64 pl] WD) (hb : Below g w WD) (hws : w.heap.size = N) :
  ∃ ao c xs, WD.cell? ⟨g, 3, none⟩ = some (.slice ao out.length c) ∧ (WD.alloc (.cells Z5 29)).cell? ⟨g, 3, none⟩ = some (.slice ao out.length c) ∧ Boxed N #[.int .i64 k, .string t, mv, lv, .int .i64 pl] (WD.alloc (.cells Z5 29)) ∧
   (WD.alloc (.cells Z5 29)).ownsRow (g + 1) 29 5 (.slice ao out.length c) out.length xs ∧ g + 1 ≤ (WD.alloc (.cells Z5 29)).heap.size ∧
   ∀ v' w9, w9.ownsRow (g + 1) 29 5 v' (out.length + 1) (xs ++ Z5.toList) → (WD.alloc (.cells Z5 29)).grownBy w9 (Value.slice ao out.length c).ownBlock → (v'.ownBlock = (Value.slice ao out.length c).ownBlock ∨ v'.ownBlock = some (WD.alloc (.cells Z5 29)).heap.size) →
   ∃ g' c', v' = .slice (some ⟨g', 0, none⟩) (out.length + 1) c' ∧ out.length + 1 ≤ c' ∧ Boxed N #[.int .i64 k, .string t, mv, lv, .int .i64 pl] w9 ∧
    (w9.there g' (out.length * 5) 5 ∧ Boxed N #[.int .i64 k, .string t, mv, lv, .int .i64 pl] (w9.setCells g' (out.length * 5) [.int .i64 k, .string t, mv, lv, .int .i64 pl]) ∧
     (w9.setCells g' (out.length * 5) [.int .i64 k, .string t, mv, lv, .int .i64 pl]).cell? ⟨g, 3, none⟩ = some (.slice ao out.length c) ∧ (w9.setCells g' (out.length * 5) [.int .i64 k, .string t, mv, lv, .int .i64 pl]).frozen? ⟨g, 3, none⟩ = false ∧
     Boxed N #[.int .i64 k, .string t, mv, lv, .int .i64 pl] ((w9.setCells g' (out.length * 5) [.int .i64 k, .string t, mv, lv, .int .i64 pl]).setCell ⟨g, 3, none⟩ v') ∧
     RetPut g s p (es, out ++ [d]) w (.returned (.tuple #[])) ((w9.setCells g' (out.length * 5) [.int .i64 k, .string t, mv, lv, .int .i64 pl]).setCell ⟨g, 3, none⟩ v')) ∧
    (w9.cell? ⟨g, 3, none⟩ = some (.slice ao out.length c) ∧ w9.frozen? ⟨g, 3, none⟩ = false ∧ Boxed N #[.int .i64 k, .string t, mv, lv, .int .i64 pl] (w9.setCell ⟨g, 3, none⟩ v') ∧ (w9.setCell ⟨g, 3, none⟩ v').there g' (out.length * 5) 5 ∧
     Boxed N #[.int .i64 k, .string t, mv, lv, .int .i64 pl] ((w9.setCell ⟨g, 3, none⟩ v').setCells g' (out.length * 5) [.int .i64 k, .string t, mv, lv, .int .i64 pl]) ∧
     RetPut g s p (es, out ++ [d]) w (.returned (.tuple #[])) ((w9.setCell ⟨g, 3, none⟩ v').setCells g' (out.length * 5) [.int .i64 k, .string t, mv, lv, .int .i64 pl])) := by
 obtain ⟨wa, hwa⟩ : ∃ wa, wa = WD.alloc (.cells Z5 29) := ⟨_, rfl⟩
 have hsz : wa.heap.size = WD.heap.size + 1 := by rw [hwa]; simp
 have hold : ∀ x, x < WD.heap.size → wa.heap[x]? = WD.heap[x]? := fun x hx => by rw [hwa]; exact Lib.alloc_old WD _ x hx
 have hNs : N ≤ WD.heap.size := by omega
 have ha : RdAt D N wa g s p es out := h.keep (fun x _ hx => hold x (by omega)) hgN (by omega)
 have hba : Below g w wa := by rw [hwa]; exact hb.alloc (by omega) _
 have hda : Dt.At (fun x => D x ∨ (N + 1 ≤ x ∧ x < wa.heap.size)) wa d #[.int .i64 k, .string t, mv, lv, .int .i64 pl] := by
  have h1 := Dt.At.keeps (w' := wa) (fun x c T fz hx hh _ => ⟨fz, by rw [hold x hx.2]; exact hh⟩) _ _ (Dt.At.bound _ _ hd)
  exact Dt.At.mono (fun x hx => by
   rcases hx.1 with h | h
   ·exact .inl h
   ·exact .inr ⟨h, by have := hx.2; omega⟩) _ _ h1
 obtain ⟨ov, dv, xs, hR, hown, hnx⟩ := ha.outp (D1 := fun x => D x ∨ (N + 1 ≤ x ∧ x < wa.heap.size)) (fun x h => .inl h) (fun x h => h.imp id (fun h => ⟨by omega, h.2⟩)) hgN rfl hda
 obtain ⟨ao, c, rfl⟩ := row_form hown (by decide)
 have hc3 := hR.cells.2.2.2
 have hgl : g < WD.heap.size := by omega
 have hxa : Boxed N #[.int .i64 k, .string t, mv, lv, .int .i64 pl] wa := by unfold Boxed at hx ⊢; rw [hold N (by omega)]; exact hx
 rw [← hwa]
 refine ⟨ao, c, xs, ?_, hc3, hxa, hown, by omega, fun v' w9 h9 hg hv => ?_⟩
 ·rw [← hc3]
  simp only [World.cell?]
  rw [hold g hgl]
 obtain ⟨g', c', rfl, hc'⟩ : ∃ g' c', v' = .slice (some ⟨g', 0, none⟩) (out.length + 1) c' ∧ out.length + 1 ≤ c' := by
  rcases h9.2 with ⟨_, hz⟩ | ⟨g1, cap, cur, rfl, _, _, hnc, _⟩
  ·exact absurd hz (by omega)
  ·exact ⟨g1, cap, rfl, hnc⟩
 rw [slice_own] at hv
 have hs9 := hg.size
 have hob : ∀ x, (Value.slice ao out.length c).ownBlock = some x → g + 1 ≤ x ∧ x < N := fun x hx => by
  obtain ⟨ov2, dv2, ys, hR2, _, _, _, _, _, h2, _⟩ := ha
  have e1 := hR2.cells.2.2.2
  rw [hc3] at e1
  injection e1 with e1
  rw [← e1] at h2
  exact ⟨(hown.lt x hx).1, (h2 x hx).1⟩
 have hg' : (g + 1 ≤ g' ∧ g' < N ∧ (Value.slice ao out.length c).ownBlock = some g') ∨ g' = wa.heap.size := by
  rcases hv with e | e
  ·exact .inl ⟨(hob g' e.symm).1, (hob g' e.symm).2, e.symm⟩
  ·injection e with e; exact .inr e
 have hgg : g ≠ g' := by omega
 have hNg : N ≠ g' := by omega
 obtain ⟨hth, hrow⟩ := row_last h9 rfl (.int .i64 k) (.string t) mv lv (.int .i64 pl)
 obtain ⟨wc, hwc⟩ : ∃ wc, wc = w9.setCells g' (out.length * 5) [.int .i64 k, .string t, mv, lv, .int .i64 pl] := ⟨_, rfl⟩
 have hwco : ∀ x, x ≠ g' → wc.heap[x]? = w9.heap[x]? := fun x hx => by rw [hwc]; exact setCells5_other w9 g' _ x _ _ _ _ _ hx
 have hwcs : wc.heap.size = w9.heap.size := by rw [hwc]; simp [World.setCells, nblk5]
 have hgw : wa.grownBy wc (Value.slice ao out.length c).ownBlock := by
  refine ⟨?_, ?_, ?_, by omega, fun x hx hn => ?_⟩
  ·rw [← hg.os, hwc, setCells5_os]
  ·rw [← hg.tape, hwc, setCells5_tape]
  ·rw [← hg.output, hwc, setCells5_output]
  ·rw [hwco x (fun e => ?_), hg.block x hx hn]
   rcases hg' with h | h
   ·exact hn (by rw [h.2.2, e])
   ·omega
 have hfin := hnx _ wc (by rw [hwc]; exact hrow) hgw (by
  rw [slice_own]
  rcases hg' with h | h
  ·exact .inl h.2.2.symm
  ·exact .inr ⟨g', rfl, by omega, by
    rw [hwcs]
    exact (h9.lt g' rfl).2⟩)
 have hxN : wa.heap[N]? = w9.heap[N]? := (hg.block N (by omega) (fun e => by have := (hob N e.symm).2; omega)).symm
 have hgN9 : w9.heap[g]? = wa.heap[g]? := hg.block g (by omega) (fun e => by have := (hob g e.symm).1; omega)
 have hR9 : Rs3 w9 g s p ov (.slice ao out.length c) := by unfold Rs3 at hR ⊢; rw [hgN9]; exact hR
 have hRc : Rs3 wc g s p ov (.slice ao out.length c) := by unfold Rs3 at hR9 ⊢; rw [hwco g hgg]; exact hR9
 have hx9 : Boxed N #[.int .i64 k, .string t, mv, lv, .int .i64 pl] w9 := by unfold Boxed at hxa ⊢; rw [← hxN]; exact hxa
 have hxc : Boxed N #[.int .i64 k, .string t, mv, lv, .int .i64 pl] wc := by unfold Boxed at hx9 ⊢; rw [hwco N hNg]; exact hx9
 have keepB : ∀ (W : World), Boxed N #[.int .i64 k, .string t, mv, lv, .int .i64 pl] W → ∀ u, Boxed N #[.int .i64 k, .string t, mv, lv, .int .i64 pl] (W.setCell ⟨g, 3, none⟩ u) := fun W hW u => by
  unfold Boxed at hW ⊢
  rw [Below.heap_setCell W _ _ N (by show N ≠ g; omega)]; exact hW
 have hswap := setCells_swap g 3 (.slice (some ⟨g', 0, none⟩) (out.length + 1) c') g' hgg [.int .i64 k, .string t, mv, lv, .int .i64 pl] (out.length * 5) w9
 have hb9 : Below g w wc := below_grown hba hgw (by omega) (fun x hx => by have := (hob x hx).1; omega)
 have hret : RetPut g s p (es, out ++ [d]) w (.returned (.tuple #[])) (wc.setCell ⟨g, 3, none⟩ (.slice (some ⟨g', 0, none⟩) (out.length + 1) c')) := by
  have hse : (wc.setCell ⟨g, 3, none⟩ (.slice (some ⟨g', 0, none⟩) (out.length + 1) c')).heap.size = wc.heap.size := by simp [World.setCell]
  refine ⟨rfl, hb9.setCell (p := ⟨g, 3, none⟩) (Nat.le_refl _) _, by rw [hse]; omega, ?_⟩
  rw [hse]
  exact ⟨_, hfin⟩
 refine ⟨g', c', rfl, hc', hx9, ?_⟩
 rw [hswap, ← hwc]
 exact ⟨⟨hth, hxc, hRc.cells.2.2.2, hRc.frozen 3, keepB _ hxc _, hret⟩, ⟨hR9.cells.2.2.2, hR9.frozen 3, keepB _ hx9 _, fun j hj => by
  have := hth j hj
  have e : (w9.setCell ⟨g, 3, none⟩ (.slice (some ⟨g', 0, none⟩) (out.length + 1) c')).heap[g']? = w9.heap[g']? := Below.heap_setCell w9 _ _ g' (by show g' ≠ g; omega)
  refine ⟨?_, ?_⟩
  ·have h1 := this.1
   simp only [World.cell?, e] at h1 ⊢; exact h1
  ·have h1 := this.2
   simp only [World.frozen?, e] at h1 ⊢; exact h1, keepB _ hxc _, hret⟩⟩
end Go.Proofs.Ytecljchifebljaa
namespace Go.Proofs.Ytecljchifebljaa
open Go.RowKit Go.BigM
/-- What holds in put's loop: the datum d lies in the box N. -/
structure PI (D : Nat → Prop) (N g : Nat) (s : ByteArray) (p : Nat) (es : List En) (out : List Dt) (d : Dt) (cs : Array Value) (w wr : World) : Prop where
 rd : RdAt D N wr g s p es out
 dat : Dt.At (fun x => D x ∨ N + 1 ≤ x) wr d cs
 box : Boxed N cs wr
 low : Below g w wr
 size : N + 1 ≤ wr.heap.size
theorem PI.below {D : Nat → Prop} {N g : Nat} {s : ByteArray} {p : Nat} {es : List En} {out : List Dt} {d : Dt} {cs : Array Value} {w wr X : World} (h : PI D N g s p es out d cs w wr) (hgN : g < N) (hb : Below wr.heap.size wr X) : PI D N g s p es out d cs w X := by
 have hs := hb.size
 have h1 := h.size
 refine ⟨h.rd.keep (fun x _ hx => hb.block x (by omega)) hgN (by omega), Dt.At.keeps (Keeps.of_below hb) _ _ h.dat, ?_, h.low.trans (hb.mono (by omega)), by omega⟩
 have := h.box
 unfold Boxed at this ⊢
 rw [hb.block N (by omega)]; exact this
theorem PI.start {D : Nat → Prop} {g : Nat} {s : ByteArray} {p : Nat} {es : List En} {out : List Dt} {d : Dt} {cs : Array Value} {w : World} (h : RdAt D w.heap.size w g s p es out) (hg : g < w.heap.size) (hd : Dt.At D w d cs) : PI D w.heap.size g s p es out d cs w (w.alloc (.cells cs 29)) := by
 have hb : Below w.heap.size w (w.alloc (.cells cs 29)) := (Below.refl _ _).alloc (Nat.le_refl _) _
 refine ⟨h.keep (fun x _ hx => hb.block x hx) hg (by simp), ?_, alloc_at w _, hb.mono (by omega), by simp⟩
 exact Dt.At.mono (fun x h => .inl h) _ _ (Dt.At.keeps (Keeps.of_below hb) _ _ hd)
theorem rs3_of {w : World} {g p : Nat} {s : ByteArray} {a b : Value} {w' : World} (h : Rs3 w g s p a b) (e : w'.heap[g]? = w.heap[g]?) : Rs3 w' g s p a b := by
 unfold Rs3 at h ⊢; rw [e]; exact h
/-- What put leaves of one that is open, of what kind it may be. -/
theorem PI.top {D : Nat → Prop} {N g : Nat} {s : ByteArray} {p : Nat} {e : En} {r : List En} {out : List Dt} {d : Dt} {k : Int} {t : ByteArray} {mv lv : Value} {pl : Int} {w wr : World} (h : PI D N g s p (e :: r) out d #[.int .i64 k, .string t, mv, lv, .int .i64 pl] w wr) (hgN : g < N) (hws : w.heap.size = N) :
  ∃ og c lo ln lc, wr.cell? ⟨g, 2, none⟩ = some (.slice (some ⟨og, 0, none⟩) (r.length + 1) c) ∧ r.length + 1 ≤ c ∧ c ≤ maxLen ∧ og < wr.heap.size ∧
   (wr.cell? ⟨og, r.length * 3, none⟩ = some (.bool e.q) ∧ wr.cell? ⟨og, r.length * 3 + 1, none⟩ = some (.int .i64 e.pl) ∧ wr.cell? ⟨og, r.length * 3 + 2, none⟩ = some (.slice lo ln lc)) ∧
   ∀ X, Below wr.heap.size wr X → wr.heap.size < X.heap.size →
    (X.cell? ⟨g, 2, none⟩ = some (.slice (some ⟨og, 0, none⟩) (r.length + 1) c) ∧ X.frozen? ⟨g, 2, none⟩ = false ∧ Boxed N #[.int .i64 k, .string t, mv, lv, .int .i64 pl] X) ∧
    (e.q = true → (Below wr.heap.size wr (X.setCell ⟨g, 2, none⟩ (.slice (some ⟨og, 0, none⟩) r.length c)) ∨ True) ∧ Boxed N #[.int .i64 k, .string t, mv, lv, .int .i64 pl] (X.setCell ⟨g, 2, none⟩ (.slice (some ⟨og, 0, none⟩) r.length c)) ∧
     ∃ D2, PI D2 N g s p r out (e.add d).dt #[.int .i64 4, .string ⟨#[]⟩, .slice none 0 0, .slice (some ⟨X.heap.size, 0, none⟩) 2 2, .int .i64 e.pl] w
      (((X.setCell ⟨g, 2, none⟩ (.slice (some ⟨og, 0, none⟩) r.length c)).alloc (.cells #[.int .i64 3, .string ⟨#[113, 117, 111, 116, 101]⟩, .slice none 0 0, .slice none 0 0, .int .i64 e.pl, .int .i64 k, .string t, mv, lv, .int .i64 pl] 29)).setRow N #[.int .i64 4, .string ⟨#[]⟩, .slice none 0 0, .slice (some ⟨X.heap.size, 0, none⟩) 2 2, .int .i64 e.pl])) ∧
    (e.q = false → ln = e.ds.length ∧ ∃ xs, (X.alloc (.cells #[.int .i64 k, .string t, mv, lv, .int .i64 pl] 29)).ownsRow (g + 1) 29 5 (.slice lo ln lc) ln xs ∧ g + 1 ≤ (X.alloc (.cells #[.int .i64 k, .string t, mv, lv, .int .i64 pl] 29)).heap.size ∧
     ∀ v' w9, w9.ownsRow (g + 1) 29 5 v' (ln + 1) (xs ++ [.int .i64 k, .string t, mv, lv, .int .i64 pl]) → (X.alloc (.cells #[.int .i64 k, .string t, mv, lv, .int .i64 pl] 29)).grownBy w9 (Value.slice lo ln lc).ownBlock → (v'.ownBlock = (Value.slice lo ln lc).ownBlock ∨ v'.ownBlock = some (X.alloc (.cells #[.int .i64 k, .string t, mv, lv, .int .i64 pl] 29)).heap.size) →
      (∀ x, x = g ∨ x = wr.heap.size ∨ x = N → w9.heap[x]? = X.heap[x]?) ∧ w9.cell? ⟨og, r.length * 3 + 2, none⟩ = some (.slice lo ln lc) ∧ w9.frozen? ⟨og, r.length * 3 + 2, none⟩ = false ∧
      (∀ x, x = g ∨ x = wr.heap.size ∨ x = N → (w9.setCell ⟨og, r.length * 3 + 2, none⟩ v').heap[x]? = X.heap[x]?) ∧ RetPut g s p (e.add d :: r, out) w (.returned (.tuple #[])) (w9.setCell ⟨og, r.length * 3 + 2, none⟩ v')) := by
 have hsz := h.size
 obtain ⟨og, c, arr, lw, dv, hR, hnc, hcm, hgo, hoN, hh, hcs, ⟨a0, a1, a2⟩, ⟨lo, lc, hlf⟩, hq, hlB, _, _, _⟩ := h.rd.top hgN
 obtain ⟨ln, hln⟩ : ∃ ln, ln = (if e.q = true then [] else e.ds).length := ⟨_, rfl⟩
 rw [← hln] at hlf
 subst hlf
 refine ⟨og, c, lo, ln, lc, hR.cells.2.2.1, hnc, hcm, by omega, ⟨?_, ?_, ?_⟩, fun X hb hX => ?_⟩
 ·rw [Lib.cell_of_heap hh]; exact a0
 ·rw [Lib.cell_of_heap hh]; exact a1
 ·rw [Lib.cell_of_heap hh]; exact a2
 have hP := h.below hgN hb
 have hs := hb.size
 obtain ⟨og', c', arr', lw', dv', hR', _, _, _, _, hh', _, ⟨a0', a1', a2'⟩, _, _, hlB', hpop, _, hadd⟩ := hP.rd.top hgN
 have hg2 : X.heap[g]? = wr.heap[g]? := hb.block g (by omega)
 have e1 := hR'
 unfold Rs3 at e1 hR
 rw [hg2, hR] at e1
 injection e1 with e1
 injection e1 with e1 _ _
 simp only [Array.mk.injEq, List.cons.injEq, Value.slice.injEq, Option.some.injEq, Addr.mk.injEq, and_true, true_and] at e1
 obtain ⟨⟨rfl, rfl⟩, rfl⟩ := e1
 rw [hb.block og (by omega), hh] at hh'
 injection hh' with hh'
 injection hh' with hh' _ _
 subst hh'
 rw [a2] at a2'
 injection a2' with a2'
 subst a2'
 refine ⟨⟨hR'.cells.2.2.1, hR'.frozen 2, hP.box⟩, fun hqt => ⟨.inr trivial, ?_, ?_⟩, fun hqf => ?_⟩
 ·have := hP.box
  unfold Boxed at this ⊢
  rw [Below.heap_setCell X _ _ N (by show N ≠ g; omega)]; exact this
 ·obtain ⟨X1, hX1⟩ : ∃ X1, X1 = X.setCell ⟨g, 2, none⟩ (.slice (some ⟨og, 0, none⟩) r.length c) := ⟨_, rfl⟩
  rw [← hX1] at hpop ⊢
  have hX1s : X1.heap.size = X.heap.size := by rw [hX1]; simp [World.setCell]
  have hX1o : ∀ x, x ≠ g → X1.heap[x]? = X.heap[x]? := fun x hx => by rw [hX1]; exact Below.heap_setCell X _ _ x hx
  obtain ⟨X2, hX2⟩ : ∃ X2, X2 = X1.alloc (.cells #[.int .i64 3, .string ⟨#[113, 117, 111, 116, 101]⟩, .slice none 0 0, .slice none 0 0, .int .i64 e.pl, .int .i64 k, .string t, mv, lv, .int .i64 pl] 29) := ⟨_, rfl⟩
  have hX2n := alloc_at X1 (.cells #[.int .i64 3, .string ⟨#[113, 117, 111, 116, 101]⟩, .slice none 0 0, .slice none 0 0, .int .i64 e.pl, .int .i64 k, .string t, mv, lv, .int .i64 pl] 29)
  rw [← hX2, hX1s] at hX2n
  have hX2o : ∀ x, x < X.heap.size → X2.heap[x]? = X1.heap[x]? := fun x hx => by rw [hX2]; exact Lib.alloc_old X1 _ x (by omega)
  have hX2s : X2.heap.size = X.heap.size + 1 := by rw [hX2]; simp [hX1s]
  rw [← hX2]
  have hboxX : X2.heap[N]? = some (.cells #[.int .i64 k, .string t, mv, lv, .int .i64 pl] 29 (0, 0)) := by
   rw [hX2o N (by omega), hX1o N (by omega)]; exact hP.box
  obtain ⟨X3, hX3⟩ : ∃ X3, X3 = X2.setRow N #[.int .i64 4, .string ⟨#[]⟩, .slice none 0 0, .slice (some ⟨X.heap.size, 0, none⟩) 2 2, .int .i64 e.pl] := ⟨_, rfl⟩
  have hX3N : X3.heap[N]? = some (.cells #[.int .i64 4, .string ⟨#[]⟩, .slice none 0 0, .slice (some ⟨X.heap.size, 0, none⟩) 2 2, .int .i64 e.pl] 29 (0, 0)) := by rw [hX3]; exact setRow_box X2 N _ _ hboxX
  have hX3o : ∀ x, x ≠ N → X3.heap[x]? = X2.heap[x]? := fun x hx => by rw [hX3]; exact setRow_other X2 N x _ hx
  have hX3s : X3.heap.size = X2.heap.size := by rw [hX3]; simp
  rw [← hX3]
  have hlN : ∀ x, (Value.slice lo ln lc).ownBlock = some x → x < N := fun x hx => (hlB x hx).2.1
  refine ⟨_, hpop.keep (fun x _ hx => by rw [hX3o x (by omega), hX2o x (by omega)]) hgN (by omega), ?_, hX3N, ?_, by omega⟩
  ·-- the new datum
   have hdd : Dt.At (fun x => (D x ∨ (Value.slice lo ln lc).ownBlock = some x) ∨ N + 1 ≤ x) X3 d #[.int .i64 k, .string t, mv, lv, .int .i64 pl] := by
    have b1 := Dt.At.bound _ _ hP.dat
    obtain ⟨ov0, dv0, xs0, _, _, _, hD0, _⟩ := hP.rd
    have b2 := Dt.At.keeps (w' := X3) (fun x c T fz hx hh _ => ⟨fz, by
     have hxN : x ≠ N := by
      rcases hx.1 with h | h
      ·have := (hD0 x h).2; omega
      ·omega
     have hxg : x ≠ g := by
      rcases hx.1 with h | h
      ·have := (hD0 x h).1; omega
      ·omega
     rw [hX3o x hxN, hX2o x hx.2, hX1o x hxg]; exact hh⟩) _ _ b1
    exact Dt.At.mono (fun x hx => hx.1.imp (fun h => .inl h) id) _ _ b2
   have hds := hq hqt
   have hnew : X3.heap[X.heap.size]? = some (.cells #[.int .i64 3, .string ⟨#[113, 117, 111, 116, 101]⟩, .slice none 0 0, .slice none 0 0, .int .i64 e.pl, .int .i64 k, .string t, mv, lv, .int .i64 pl] 29 (0, 0)) := by rw [hX3o _ (by omega)]; exact hX2n
   have hdt : (e.add d).dt = .mk 4 ⟨#[]⟩ [] [.mk 3 qT [] [] e.pl, d] e.pl := by
    simp [En.dt, En.add, hds]
   rw [hdt, At_mk]
   refine ⟨_, _, rfl, .inl ⟨rfl, rfl⟩, .inr ⟨X.heap.size, 0, 2, _, _, rfl, .inr (by omega), hnew, ?_, by simp⟩⟩
   unfold Dts.At
   refine ⟨⟨#[.int .i64 3, .string ⟨#[113, 117, 111, 116, 101]⟩, .slice none 0 0, .slice none 0 0, .int .i64 e.pl], fun i hi => ?_, ?_⟩, ?_⟩
   ·have h5 : i = 0 ∨ i = 1 ∨ i = 2 ∨ i = 3 ∨ i = 4 := by omega
    rcases h5 with rfl | rfl | rfl | rfl | rfl <;> rfl
   ·rw [At_mk]
    exact ⟨_, _, rfl, .inl ⟨rfl, rfl⟩, .inl ⟨rfl, rfl⟩⟩
   ·unfold Dts.At
    refine ⟨⟨_, fun i hi => ?_, hdd⟩, ?_⟩
    ·have h5 : i = 0 ∨ i = 1 ∨ i = 2 ∨ i = 3 ∨ i = 4 := by omega
     rcases h5 with rfl | rfl | rfl | rfl | rfl <;> rfl
    ·unfold Dts.At; trivial
  ·have l1 : Below g w X1 := by rw [hX1]; exact hP.low.setCell (p := ⟨g, 2, none⟩) (Nat.le_refl _) _
   have l2 : Below g w X2 := by rw [hX2]; exact l1.alloc (by omega) _
   rw [hX3]
   exact below_setRowB l2 _ _ (by omega)
 ·have hlneq : ln = e.ds.length := by rw [hln, hqf]; simp
  refine ⟨hlneq, ?_⟩
  obtain ⟨wa, hwa⟩ : ∃ wa, wa = X.alloc (.cells #[.int .i64 k, .string t, mv, lv, .int .i64 pl] 29) := ⟨_, rfl⟩
  have hwas : wa.heap.size = X.heap.size + 1 := by rw [hwa]; simp
  have hwao : ∀ x, x < X.heap.size → wa.heap[x]? = X.heap[x]? := fun x hx => by rw [hwa]; exact Lib.alloc_old X _ x hx
  have hda : Dt.At (fun x => D x ∨ (N + 1 ≤ x ∧ x < wa.heap.size)) wa d #[.int .i64 k, .string t, mv, lv, .int .i64 pl] := by
   have b1 := Dt.At.keeps (w' := wa) (fun x c T fz hx hh _ => ⟨fz, by rw [hwao x hx.2]; exact hh⟩) _ _ (Dt.At.bound _ _ hP.dat)
   exact Dt.At.mono (fun x hx => by
    rcases hx.1 with h | h
    ·exact .inl h
    ·exact .inr ⟨h, by have := hx.2; omega⟩) _ _ b1
  obtain ⟨xs, hown, hnx⟩ := hadd hqf wa (fun x => D x ∨ (N + 1 ≤ x ∧ x < wa.heap.size)) d #[.int .i64 k, .string t, mv, lv, .int .i64 pl] (fun x _ hx => hwao x (by omega)) (by omega) (fun x h => .inl h) (fun x h => h.imp id (fun h => ⟨by omega, h.2⟩)) rfl hda
  rw [← hlneq] at hown hnx
  rw [← hwa]
  refine ⟨xs, hown, by omega, fun v' w9 h9 hg hv => ?_⟩
  have hs9 := hg.size
  have hlt : ∀ x, (Value.slice lo ln lc).ownBlock = some x → g + 1 ≤ x ∧ x < N ∧ x ≠ og := hlB
  have old : ∀ x, x < X.heap.size → (Value.slice lo ln lc).ownBlock ≠ some x → w9.heap[x]? = X.heap[x]? := fun x hx hn => by
   rw [hg.block x (by omega) (fun e => hn e.symm), hwao x hx]
  have o3 : ∀ x, x = g ∨ x = wr.heap.size ∨ x = N → w9.heap[x]? = X.heap[x]? := fun x hx => old x (by omega) (fun e => by have := hlt x e; omega)
  have hog9 : w9.heap[og]? = some (.cells arr 137 (0, 0)) := by
   rw [old og (by omega) (fun e => (hlt og e).2.2 rfl), hb.block og (by omega)]; exact hh
  have hfin := hnx v' w9 h9 hg (by
   rcases hv with e | e
   ·exact .inl e
   ·exact .inr ⟨_, e, Nat.le_refl _, (h9.lt _ e).2⟩)
  have hse : (w9.setCell ⟨og, r.length * 3 + 2, none⟩ v').heap.size = w9.heap.size := by simp [World.setCell]
  refine ⟨o3, ?_, frozen_of_row w9 og _ arr 137 hog9, fun x hx => ?_, rfl, ?_, by rw [hse]; omega, ?_⟩
  ·rw [Lib.cell_of_heap hog9]; exact a2
  ·rw [Below.heap_setCell w9 _ _ x (by show x ≠ og; omega)]; exact o3 x hx
  ·have hba : Below g w wa := by rw [hwa]; exact hP.low.alloc (by omega) _
   exact (below_grown hba hg (by omega) (fun x hx => by have := (hlt x hx).1; omega)).setCell (p := ⟨og, r.length * 3 + 2, none⟩) (by show g ≤ og; omega) _
  ·rw [hse]
   exact ⟨_, hfin⟩
end Go.Proofs.Ytecljchifebljaa
