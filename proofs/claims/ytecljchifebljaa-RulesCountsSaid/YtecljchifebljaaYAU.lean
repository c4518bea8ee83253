/- Rules: one more behind a row within a row of bindings. -/
import Derived.Test.YtecljchifebljaaYAT
set_option linter.unusedVariables false
set_option linter.unusedSimpArgs false
namespace Go.Proofs.Ytecljchifebljaa
open Go Go.RowKit
theorem ownsRow_one {w : World} {B e size : Nat} {v : Value} {n : Nat} {xs ys : List Value} (h : w.ownsRow B e size v n xs) (k : w.ownsRow B e size v n ys) : xs = ys := by
 have e1 := h.1
 have e2 := k.1
 rcases h.2 with ⟨rfl, hz⟩ | ⟨g, cap, cur, rfl, hbg, hh, _, _, _, ht⟩
 ·rw [hz] at e1 e2
  rw [List.length_eq_zero_iff.1 (by omega : xs.length = 0), List.length_eq_zero_iff.1 (by omega : ys.length = 0)]
 ·rcases k.2 with ⟨e, _⟩ | ⟨g', cap', cur', e, _, hh', _, _, _, ht'⟩
  ·cases e
  ·injection e with e _ _
   injection e with e; injection e with e
   subst e
   rw [hh] at hh'; injection hh' with hh'; injection hh' with hh'
   rw [← ht, ← ht', hh']
open Classical in
/-- Behind an append of one binding: a row one longer; only what is needed of the world behind it. -/
theorem RowN.snoc2 {S F G : Nat → Prop} {w : World} {v : Value} {bs : List Bd} {b : Bd} {cs : Array Value} (h : RowN S F w v bs) (h5 : cs.size = 12) (hb : Bd.OAt S w b G cs) (hG : ∀ x, G x → ¬ F x) :
  ∃ xs, w.ownsRow 0 60 12 v bs.length xs ∧ ∀ v' w9, w9.ownsRow 0 60 12 v' (bs.length + 1) (xs ++ cs.toList) → KeepsB S w w9 → (∀ x, x < w.heap.size → (F x ∧ v.ownBlock ≠ some x) ∨ G x → w9.heap[x]? = w.heap[x]?) → (v'.ownBlock = v.ownBlock ∨ ∃ b, v'.ownBlock = some b ∧ w.heap.size ≤ b) →
   RowN S (fun x => F x ∨ G x ∨ v'.ownBlock = some x) w9 v' (bs ++ [b]) := by
 have hbd := Bd.OAt.bound b _ cs hb
 have hrb := h.bound
 rw [RowN_iff] at h hrb
 obtain ⟨xs, c0, h1, h2, _⟩ := h
 refine ⟨xs, h1, fun v' w9 h9 hk hold hv => ?_⟩
 obtain ⟨xs', c, h1', h2', h3⟩ := hrb
 have hxe := ownsRow_one h1' h1
 subst hxe
 have hl : xs'.length = bs.length * 12 := h1.1
 have hne : ∀ x, x < w.heap.size → v.ownBlock ≠ some x → v'.ownBlock ≠ some x := fun x hx hx2 => by
  rcases hv with e | ⟨y, e, hy⟩
  ·rw [e]; exact hx2
  ·rw [e]; intro e; injection e with e; omega
 rw [RowN_iff]
 refine ⟨_, fun x => if G x then bs.length else c x, by simpa using h9, fun g hg => .inr (.inr hg), fun j hj => ?_⟩
 by_cases hlt : j < bs.length
 ·obtain ⟨d, d1, d2, d3⟩ := h3 j hlt
  refine ⟨d, d1, fun t ht => ?_, ?_⟩
  ·rw [List.getElem?_append_left (by omega)]; exact d2 t ht
  ·rw [List.getElem_append_left hlt]
   have d4 := Bd.OAt.keeps hk _ _ _ (fun x (hx : (F x ∧ x < w.heap.size) ∧ v.ownBlock ≠ some x ∧ c x = j) => hold x hx.1.2 (.inl ⟨hx.1.1, hx.2.1⟩)) d3
   refine Bd.OAt.mono (fun _ h => h) _ _ _ _ ?_ d4
   rintro x ⟨⟨x1, x2⟩, x3, x4⟩
   refine ⟨.inl x1, hne x x2 x3, ?_⟩
   show (if G x then bs.length else c x) = j
   rw [if_neg (fun h => hG x h x1)]; exact x4
 ·have hj' : j = bs.length := by simp at hj; omega
  subst hj'
  refine ⟨cs, h5, fun t ht => ?_, ?_⟩
  ·rw [List.getElem?_append_right (by omega), show 12 * bs.length + t - xs'.length = t by omega]; simp
  ·rw [List.getElem_append_right (by omega)]
   simp only [Nat.sub_self, List.getElem_cons_zero]
   have hgv : ∀ x, G x → v.ownBlock ≠ some x := fun x hx e => hG x hx (h2 x e)
   have d4 := Bd.OAt.keeps hk _ _ _ (fun x (hx : G x ∧ x < w.heap.size) => hold x hx.2 (.inr hx.1)) hbd
   refine Bd.OAt.mono (fun _ h => h) _ _ _ _ ?_ d4
   rintro x ⟨x1, x2⟩
   exact ⟨.inr (.inl x1), hne x x2 (hgv x x1), by show (if G x then bs.length else c x) = bs.length; rw [if_pos x1]⟩
/-- The i-th binding's row is one longer: the row of bindings behind it. -/
theorem row_put {A : Nat} {F F' Gb : Nat → Prop} {W W' : World} {g m cap i : Nat} {bs : List Bd} {cur cs : Array Value} {c : Nat → Nat} {n d : Dt} {q : Int} {l : List Bd} {bb : Bd} {m1 l1 m2 l2 lv vn : Value}
  (h : RowC F (EO A bs W) W (.slice (some ⟨g, 0, none⟩) m cap) m c) (hi : i < m) (hg : W.heap[g]? = some (.cells cur 60 (0, 0))) (hcl : m * 12 ≤ cur.size) (h5 : cs.size = 12) (hin : ∀ t, t < 12 → cur[12 * i + t]? = cs[t]?)
  (hb : bs[i]? = some (.mk n q d l)) (hcs : cs = (n.five m1 l1 ++ [Value.int .i64 q] ++ d.five m2 l2 ++ [lv]).toArray) (hn : Dt.At (fun g => g < A) W n (n.five m1 l1).toArray) (hd : Dt.At (fun g => g < A) W d (d.five m2 l2).toArray)
  (hFb : ∀ x, F x → x < W.heap.size) (hFA : ∀ x, F x → A ≤ x) (hGb : ∀ x, Gb x → ¬ F x)
  (hg' : W'.heap[g]? = some (.cells (cur.setIfInBounds (12 * i + 11) vn) 60 (0, 0))) (hold : ∀ x, x < W.heap.size → x ≠ g → lv.ownBlock ≠ some x → W'.heap[x]? = W.heap[x]?)
  (hlv : ∀ x, lv.ownBlock = some x → F x ∧ g ≠ x ∧ c x = i) (hvn : ∀ x, vn.ownBlock = some x → lv.ownBlock = some x ∨ (W.heap.size ≤ x ∧ F' x))
  (hres : RowN (fun g => g < A) (fun x => (F x ∧ g ≠ x ∧ c x = i) ∨ Gb x ∨ vn.ownBlock = some x) W' vn (l ++ [bb]))
  (hF' : ∀ x, F x → F' x) (hG' : ∀ x, Gb x → F' x) (hFg : F g) :
  ∃ c', RowC F' (EO A (bs.set i (.mk n q d (l ++ [bb]))) W') W' (.slice (some ⟨g, 0, none⟩) m cap) m c' := by
 have hkA : KeepsB (fun g => g < A) W W' := fun x cc T fz hs hx => ⟨fz, by
  have hs : x < A := hs
  rw [hold x (Array.getElem?_eq_some_iff.1 hx).1 (fun e => by have := hFA g hFg; omega) (fun e => by have := hFA x (hlv x e).1; omega)]; exact hx⟩
 obtain ⟨s1, s2, s3, s4⟩ := cells12_set (cur := cur) (cs := cs) (i := i) (u := vn) 11 (by decide) h5 (by omega) hin
 classical
 refine ⟨_, RowC.put (G := fun x => Gb x ∨ (vn.ownBlock = some x ∧ W.heap.size ≤ x)) (cs' := cs.setIfInBounds 11 vn) h hi hg hg' s1 s2 s3 s4 hF' ?_ ?_ ?_⟩
 ·rintro x (hx | ⟨_, hx⟩) hFx
  ·exact hGb x hx hFx
  ·have := hFb x hFx; omega
 ·rintro k K K' cc hk hne hK hKK ⟨b, hb1, hb2⟩
  refine ⟨b, by rw [List.getElem?_set_ne (fun e => hne e.symm)]; exact hb1, ?_⟩
  refine Bd.OAt.mono (fun _ h => h) _ _ _ _ hKK (Bd.OAt.keeps hkA _ _ _ (fun x hx => ?_) hb2)
  obtain ⟨y1, y2, y3⟩ := hK x hx
  exact hold x (hFb x y1) (fun e => y2 e.symm) (fun e => hne (by have := (hlv x e).2.2; omega))
 ·have hil : i < bs.length := (List.getElem?_eq_some_iff.1 hb).1
  refine ⟨.mk n q d (l ++ [bb]), by rw [List.getElem?_set_self hil], ?_⟩
  rw [hcs, cells12_last, OAt_mk]
  refine ⟨m1, l1, m2, l2, vn, rfl, hn.keeps hkA.keeps, hd.keeps hkA.keeps, hres.mono (fun _ h => h) ?_⟩
  rintro x (⟨y1, y2, y3⟩ | hx | hx)
  ·exact ⟨hF' x y1, y2, by
    rw [if_neg]
    ·exact y3
    ·rintro (hx | ⟨_, hx⟩)
     ·exact hGb x hx y1
     ·have := hFb x y1; omega⟩
  ·exact ⟨hG' x hx, fun e => hGb x hx (e ▸ hFg), if_pos (.inl hx)⟩
  ·rcases hvn x hx with h1 | ⟨h1, h2⟩
   ·obtain ⟨y1, y2, y3⟩ := hlv x h1
    exact ⟨hF' x y1, y2, by
     rw [if_neg]
     ·exact y3
     ·rintro (hx | ⟨_, hx⟩)
      ·exact hGb x hx y1
      ·have := hFb x y1; omega⟩
   ·exact ⟨h2, fun e => by have := hFb g hFg; omega, if_pos (.inr ⟨hx, h1⟩)⟩
end Go.Proofs.Ytecljchifebljaa
namespace Go.Proofs.Ytecljchifebljaa
open Go Go.RowKit
theorem setCells_heap : ∀ (vs : List Value) (w : World) (b o : Nat) (cur : Array Value) (T : TypeId), w.heap[b]? = some (.cells cur T (0, 0)) → o + vs.length ≤ cur.size →
  ∃ cur', (w.setCells b o vs).heap[b]? = some (.cells cur' T (0, 0)) ∧ cur'.size = cur.size ∧ (∀ t, t < vs.length → cur'[o + t]? = vs[t]?) ∧ (∀ t, (t < o ∨ o + vs.length ≤ t) → cur'[t]? = cur[t]?) ∧
   (∀ x, x ≠ b → (w.setCells b o vs).heap[x]? = w.heap[x]?) ∧ (w.setCells b o vs).heap.size = w.heap.size ∧ (w.setCells b o vs).os = w.os ∧ (w.setCells b o vs).tape = w.tape ∧ (w.setCells b o vs).output = w.output
 | [], w, b, o, cur, T, h, _ => ⟨cur, h, rfl, fun t ht => absurd ht (by simp), fun _ _ => rfl, fun _ _ => rfl, rfl, rfl, rfl, rfl⟩
 | v :: vs, w, b, o, cur, T, h, hl => by
  have h1 := heap_setCell_same w b o cur T v h
  obtain ⟨cur', k1, k2, k3, k4, k5, k6, k7, k8, k9⟩ := setCells_heap vs (w.setCell ⟨b, o, none⟩ v) b (o + 1) _ T h1 (by simp at hl ⊢; omega)
  refine ⟨cur', k1, by rw [k2]; simp, fun t ht => ?_, fun t ht => ?_, fun x hx => (k5 x hx).trans (heap_setCell_other _ _ _ _ hx), k6.trans (by simp), k7, k8, k9⟩
  ·cases t with
   | zero =>
    rw [Nat.add_zero, k4 o (by omega), Array.getElem?_setIfInBounds, if_pos rfl, if_pos (by simp at hl; omega)]; rfl
   | succ t =>
    have := k3 t (by simpa using ht)
    rw [show o + (t + 1) = o + 1 + t by omega, this]; rfl
  ·rw [k4 t (by simp at ht; omega), Array.getElem?_setIfInBounds, if_neg (by simp at ht; omega)]
/-- The last binding of a row is written over. -/
theorem own_last {w : World} {gn L cap : Nat} {xs zs bcs : List Value} (h : w.ownsRow 0 60 12 (.slice (some ⟨gn, 0, none⟩) (L + 1) cap) (L + 1) (xs ++ zs)) (hx : xs.length = L * 12) (hz : zs.length = 12) (hb : bcs.length = 12) :
  (w.setCells gn (L * 12) bcs).ownsRow 0 60 12 (.slice (some ⟨gn, 0, none⟩) (L + 1) cap) (L + 1) (xs ++ bcs) ∧ (∀ x, x ≠ gn → (w.setCells gn (L * 12) bcs).heap[x]? = w.heap[x]?) ∧ (w.setCells gn (L * 12) bcs).heap.size = w.heap.size ∧ (w.setCells gn (L * 12) bcs).os = w.os ∧ (w.setCells gn (L * 12) bcs).tape = w.tape ∧ (w.setCells gn (L * 12) bcs).output = w.output ∧ w.there gn (L * 12) 12 := by
 rcases h.2 with ⟨e, _⟩ | ⟨g, cap', cur, e, _, hh, hnc, hcm, hcs, ht⟩
 ·cases e
 injection e with e _ e2
 injection e with e; injection e with e
 subst e; subst e2
 have hsz : (L + 1) * 12 ≤ cur.size := by rw [hcs]; exact Nat.mul_le_mul_right 12 hnc
 obtain ⟨cur', k1, k2, k3, k4, k5, k6, k7, k8, k9⟩ := setCells_heap bcs w gn (L * 12) cur 60 hh (by omega)
 refine ⟨⟨by rw [List.length_append]; omega, .inr ⟨gn, cap, cur', rfl, Nat.zero_le _, k1, hnc, hcm, by omega, ?_⟩⟩, k5, k6, k7, k8, k9, fun j hj => ⟨?_, frozen_of_row _ _ _ _ _ hh⟩⟩
 ·refine List.ext_getElem? fun t => ?_
  rw [List.getElem?_take]
  by_cases h1 : t < (L + 1) * 12
  ·rw [if_pos h1, Array.getElem?_toList]
   by_cases h2 : t < L * 12
   ·rw [k4 t (.inl h2), List.getElem?_append_left (by omega)]
    have h3 : (List.take ((L + 1) * 12) cur.toList)[t]? = (xs ++ zs)[t]? := by rw [ht]
    rw [List.getElem?_take, if_pos h1, Array.getElem?_toList, List.getElem?_append_left (by omega)] at h3
    exact h3
   ·have h4 := k3 (t - L * 12) (by omega)
    rw [show L * 12 + (t - L * 12) = t by omega] at h4
    rw [h4, List.getElem?_append_right (by omega), hx]
  ·rw [if_neg h1, List.getElem?_eq_none (by rw [List.length_append]; omega)]
 ·rw [Lib.cell_of_heap hh, Array.getElem?_eq_getElem (by omega)]; rfl
/-- What the two stores at a round's end leave, in either order. -/
structure PutEnd (W8 X : World) (g gn L i : Nat) (cur : Array Value) (vn : Value) (ys : List Value) : Prop where
 row : X.heap[g]? = some (.cells (cur.setIfInBounds (12 * i + 11) vn) 60 (0, 0))
 new : X.ownsRow 0 60 12 vn (L + 1) ys
 old : ∀ x, x ≠ g → x ≠ gn → X.heap[x]? = W8.heap[x]?
 size : X.heap.size = W8.heap.size
 os : X.os = W8.os
 tape : X.tape = W8.tape
 output : X.output = W8.output
theorem put_end1 {w : World} {g gn L cap i : Nat} {cur : Array Value} {xs zs bcs : List Value} (h : w.ownsRow 0 60 12 (.slice (some ⟨gn, 0, none⟩) (L + 1) cap) (L + 1) (xs ++ zs)) (hx : xs.length = L * 12) (hz : zs.length = 12) (hb : bcs.length = 12) (hg : w.heap[g]? = some (.cells cur 60 (0, 0))) (hne : g ≠ gn) :
  PutEnd w ((w.setCells gn (L * 12) bcs).setCell ⟨g, 12 * i + 11, none⟩ (.slice (some ⟨gn, 0, none⟩) (L + 1) cap)) g gn L i cur (.slice (some ⟨gn, 0, none⟩) (L + 1) cap) (xs ++ bcs) := by
 obtain ⟨k1, k2, k3, k4, k5, k6, _⟩ := own_last h hx hz hb
 exact ⟨heap_setCell_same _ _ _ _ _ _ ((k2 g hne).trans hg), ownsRow_same k1 (fun x e => by simp only [Value.ownBlock, Option.some.injEq] at e; subst e; exact heap_setCell_other _ _ _ _ hne.symm), fun x h1 h2 => (heap_setCell_other _ _ _ _ h1).trans (k2 x h2), by simp [k3], k4, k5, k6⟩
theorem put_end2 {w : World} {g gn L cap i : Nat} {cur : Array Value} {xs zs bcs : List Value} (h : w.ownsRow 0 60 12 (.slice (some ⟨gn, 0, none⟩) (L + 1) cap) (L + 1) (xs ++ zs)) (hx : xs.length = L * 12) (hz : zs.length = 12) (hb : bcs.length = 12) (hg : w.heap[g]? = some (.cells cur 60 (0, 0))) (hne : g ≠ gn) :
  PutEnd w ((w.setCell ⟨g, 12 * i + 11, none⟩ (.slice (some ⟨gn, 0, none⟩) (L + 1) cap)).setCells gn (L * 12) bcs) g gn L i cur (.slice (some ⟨gn, 0, none⟩) (L + 1) cap) (xs ++ bcs) := by
 have h' := ownsRow_same (w' := w.setCell ⟨g, 12 * i + 11, none⟩ (.slice (some ⟨gn, 0, none⟩) (L + 1) cap)) h (fun x e => by simp only [Value.ownBlock, Option.some.injEq] at e; subst e; exact heap_setCell_other _ _ _ _ hne.symm)
 obtain ⟨k1, k2, k3, k4, k5, k6, _⟩ := own_last (bcs := bcs) h' hx hz hb
 exact ⟨(k2 g hne).trans (heap_setCell_same _ _ _ _ _ _ hg), k1, fun x h1 h2 => (k2 x h2).trans (heap_setCell_other _ _ _ _ h1), by rw [k3]; simp, k4, k5, k6⟩
end Go.Proofs.Ytecljchifebljaa
namespace Go.Proofs.Ytecljchifebljaa
open Go Go.RowKit
def F3 (K N1 N2 : Nat) (u : Value) (cu : Nat → Nat) (i : Nat) (W : World) (x : Nat) : Prop := K ≤ x ∧ x < W.heap.size ∧ (x < N1 ∨ N2 ≤ x ∨ (u.ownBlock ≠ some x ∧ cu x < i))
def FU (N1 N2 : Nat) (x : Nat) : Prop := N1 ≤ x ∧ x < N2
def EU (A : Nat) (r : List Bd) (i : Nat) (W : World) (k : Nat) (G : Nat → Prop) (cs : Array Value) : Prop := ∃ b, r[k]? = some b ∧ (i ≤ k → Bd.OAt (fun g => g < A) W b G cs)
def mixB (bs0 bs1 : List Bd) (i : Nat) : List Bd := bs1.take i ++ bs0.drop i
def Inv3 (A K N1 N2 : Nat) (bs0 bs1 r : List Bd) (u : Value) (cu : Nat → Nat) (v1 : Value) (m i : Nat) (W : World) : Prop :=
 ∃ c, RowC (F3 K N1 N2 u cu i W) (EO A (mixB bs0 bs1 i) W) W v1 m c ∧ RowC (FU N1 N2) (EU A r i W) W u m cu
theorem mixB_get {bs0 bs1 : List Bd} {i : Nat} (h : i < bs0.length) (h1 : bs1.length = bs0.length) : (mixB bs0 bs1 i)[i]? = bs0[i]? := by
 unfold mixB
 rw [List.getElem?_append_right (by rw [List.length_take]; omega), List.length_take, List.getElem?_drop]
 congr 1; omega
theorem mixB_set {bs0 bs1 : List Bd} {i : Nat} {b : Bd} (h : i < bs0.length) (h1 : bs1.length = bs0.length) (hb : bs1[i]? = some b) : (mixB bs0 bs1 i).set i b = mixB bs0 bs1 (i + 1) := by
 have e1 : bs1.take (i + 1) = bs1.take i ++ [b] := by
  rw [List.take_succ_eq_append_getElem (by omega)]
  rw [List.getElem?_eq_getElem (by omega)] at hb
  injection hb with hb
  rw [hb]
 unfold mixB
 rw [e1, List.set_append_right _ _ (by rw [List.length_take]; omega), List.length_take, Nat.min_eq_left (by omega), Nat.sub_self, List.append_assoc]
 congr 1
 conv => lhs; rw [List.drop_eq_getElem_cons h]
 rfl
theorem mixB_end {bs0 bs1 : List Bd} {m : Nat} (h : bs0.length = m) (h1 : bs1.length = m) : mixB bs0 bs1 m = bs1 := by
 unfold mixB
 rw [List.take_of_length_le (by omega), List.drop_eq_nil_of_le (by omega), List.append_nil]
theorem mixB_zero (bs0 bs1 : List Bd) : mixB bs0 bs1 0 = bs0 := by unfold mixB; simp
/-- Twelve cells, written out. -/
theorem twelve {S : Nat → Prop} {w : World} {b : Bd} {G : Nat → Prop} {cs : Array Value} (h : Bd.OAt S w b G cs) : ∃ nk nt nmo nmn nmc nlo nln nlc np q dk dt dmo dmn dmc dlo dln dlc dp ro rn rc,
  cs = #[.int .i64 nk, .string nt, .slice nmo nmn nmc, .slice nlo nln nlc, .int .i64 np, .int .i64 q, .int .i64 dk, .string dt, .slice dmo dmn dmc, .slice dlo dln dlc, .int .i64 dp, .slice ro rn rc] := by
 obtain ⟨n, q, d, l⟩ := b
 rw [OAt_mk] at h
 obtain ⟨m1, l1, m2, l2, lv, rfl, hn, hd, hr⟩ := h
 obtain ⟨k, t, mo, mn, mc, lo, ln, lc, p, e⟩ := At_slices hn
 obtain ⟨k2, t2, mo2, mn2, mc2, lo2, ln2, lc2, p2, e2⟩ := At_slices hd
 obtain ⟨ro, rc, rfl⟩ := hr.form
 have e := congrArg Array.toList e
 have e2 := congrArg Array.toList e2
 simp only [List.toList_toArray] at e e2
 refine ⟨k, t, mo, mn, mc, lo, ln, lc, p, q, k2, t2, mo2, mn2, mc2, lo2, ln2, lc2, p2, ro, l.length, rc, ?_⟩
 rw [e, e2]; rfl
theorem inv3_open {A K N1 N2 : Nat} {bs0 bs1 r : List Bd} {u v1 : Value} {cu : Nat → Nat} {m i : Nat} {W : World} (hAK : A ≤ K) (hK : K ≤ N1) (hN : N1 ≤ N2) (hN2 : N2 ≤ W.heap.size) (h : Inv3 A K N1 N2 bs0 bs1 r u cu v1 m i W) (hi : i < m)
  (l0 : bs0.length = m) (l1 : bs1.length = m) (hsh : ∀ (k : Nat) (b c : Bd), bs0[k]? = some b → r[k]? = some c → bs1[k]? = some (Bd.mk b.name b.deep b.dat (b.rows ++ [c]))) :
  ∃ g cap cur lvo lvc L xs gu capu curu, ∃ bcs : Array Value, (∃ b G, Bd.OAt (fun g => g < A) W b G bcs) ∧
   v1 = .slice (some ⟨g, 0, none⟩) m cap ∧ K ≤ g ∧ W.heap[g]? = some (.cells cur 60 (0, 0)) ∧ m * 12 ≤ cur.size ∧ cur[12 * i + 11]? = some (.slice lvo L lvc) ∧ W.ownsRow 0 60 12 (.slice lvo L lvc) L xs ∧ (∃ b, bs0[i]? = some b ∧ b.rows.length = L) ∧ (∀ x, (Value.slice lvo L lvc).ownBlock = some x → g ≠ x ∧ K ≤ x ∧ x < W.heap.size) ∧
   u = .slice (some ⟨gu, 0, none⟩) m capu ∧ W.heap[gu]? = some (.cells curu 60 (0, 0)) ∧ m * 12 ≤ curu.size ∧ bcs.size = 12 ∧ (∀ t, t < 12 → curu[12 * i + t]? = bcs[t]?) ∧
   ∀ (X : World) (vn : Value), X.heap[g]? = some (.cells (cur.setIfInBounds (12 * i + 11) vn) 60 (0, 0)) → X.ownsRow 0 60 12 vn (L + 1) (xs ++ bcs.toList) → (∀ x, x < W.heap.size → x ≠ g → (Value.slice lvo L lvc).ownBlock ≠ some x → X.heap[x]? = W.heap[x]?) →
    (vn.ownBlock = (Value.slice lvo L lvc).ownBlock ∨ ∃ b, vn.ownBlock = some b ∧ W.heap.size ≤ b) → W.heap.size ≤ X.heap.size → Inv3 A K N1 N2 bs0 bs1 r u cu v1 m (i + 1) X := by
 obtain ⟨c, h1, h2⟩ := h
 have h1' := h1
 have h2' := h2
 obtain ⟨g, cap, cur, cs, rfl, hFg, hg, hnc, hcs, h5, hin, b, hb, hO⟩ := h1.get hi
 obtain ⟨gu, capu, curu, csu, rfl, hFu, hgu, hncu, hcsu, h5u, hinu, bb, hbb, hbO⟩ := h2.get hi
 have hbO := hbO (Nat.le_refl _)
 have hbO0 := hbO
 rw [mixB_get (by omega) (by omega)] at hb
 have hs1 := hsh i b bb hb hbb
 obtain ⟨n, q, d, l⟩ := b
 rw [OAt_mk] at hO
 obtain ⟨m1, l1', m2, l2, lv, hcs', hn, hd, hrow⟩ := hO
 obtain ⟨lvo, lvc, rfl⟩ := hrow.form
 have hlvF := hrow.own
 have hug : ∀ x, (Value.slice (some ⟨gu, 0, none⟩) m capu).ownBlock ≠ some x ↔ gu ≠ x := fun x => by simp [Value.ownBlock]
 have hdis : ∀ x, (FU N1 N2 x ∧ gu ≠ x ∧ cu x = i) → ¬ (F3 K N1 N2 (.slice (some ⟨gu, 0, none⟩) m capu) cu i W x ∧ g ≠ x ∧ c x = i) := by
  rintro x ⟨⟨a1, a2⟩, a3, a4⟩ ⟨⟨b1, b2, b3⟩, _⟩
  rcases b3 with h | h | ⟨_, h⟩ <;> omega
 have hF3U : ∀ x, F3 K N1 N2 (.slice (some ⟨gu, 0, none⟩) m capu) cu i W x → FU N1 N2 x → gu ≠ x ∧ cu x < i := by
  rintro x ⟨b1, b2, b3⟩ ⟨a1, a2⟩
  rcases b3 with h | h | ⟨h1, h⟩
  ·omega
  ·omega
  ·exact ⟨(hug x).1 h1, h⟩
 obtain ⟨xs, hxs, hcont⟩ := RowN.snoc2 hrow h5u hbO hdis
 have h11 : cur[12 * i + 11]? = some (.slice lvo l.length lvc) := by rw [hin 11 (by decide), hcs']; unfold Dt.five; rfl
 have hmc : m * 12 ≤ cur.size := by rw [hcs]; exact Nat.mul_le_mul_right 12 hnc
 refine ⟨g, cap, cur, lvo, lvc, l.length, xs, gu, capu, curu, csu, ⟨bb, _, hbO0⟩, rfl, hFg.1, hg, hmc, h11, hxs, ⟨_, hb, rfl⟩, fun x hx => ⟨(hlvF x hx).1.2.1, (hlvF x hx).1.1.1, (hlvF x hx).2⟩, rfl, hgu, by rw [hcsu]; exact Nat.mul_le_mul_right 12 hncu, h5u, hinu, ?_⟩
 intro X vn x1 x2 x3 x4 x5
 have hkA : KeepsB (fun g => g < A) W X := fun x cc T fz hs hx => ⟨fz, by
  have hs : x < A := hs
  rw [x3 x (Array.getElem?_eq_some_iff.1 hx).1 (fun e => by have := hFg.1; omega) (fun e => by have := (hlvF x e).1.1.1; omega)]; exact hx⟩
 have hres := hcont vn X x2 hkA (by
  rintro x hx (⟨⟨a1, a2, a3⟩, a4⟩ | hG)
  ·exact x3 x hx a2.symm a4
  ·refine x3 x hx (fun e => ?_) (fun e => hdis x hG (hlvF x e).1)
   subst e
   have := (hF3U x hFg hG.1).2; have := hG.2.2; omega) x4
 obtain ⟨c', hput⟩ := row_put (F' := F3 K N1 N2 (.slice (some ⟨gu, 0, none⟩) m capu) cu (i + 1) X) (Gb := fun x => FU N1 N2 x ∧ gu ≠ x ∧ cu x = i) (bb := bb) h1' hi hg hmc h5 hin (by rw [mixB_get (by omega) (by omega)]; exact hb) hcs' hn hd (fun x h => h.2.1) (fun x h => Nat.le_trans hAK h.1)
  (fun x hx hF => by have := (hF3U x hF hx.1).2; have := hx.2.2; omega) x1 x3 (fun x hx => (hlvF x hx).1)
  (fun x hx => by
   rcases x4 with e | ⟨y, e, hy⟩
   ·exact .inl (e ▸ hx)
   ·have hxs := (x2.lt x hx).2
    rw [e] at hx; injection hx with hx; subst hx
    exact .inr ⟨hy, by omega, hxs, .inr (.inl (by omega))⟩)
  hres (fun x hx => ⟨hx.1, by have := hx.2.1; omega, by rcases hx.2.2 with h | h | ⟨h, h'⟩; exact .inl h; exact .inr (.inl h); exact .inr (.inr ⟨h, by omega⟩)⟩)
  (fun x hx => ⟨by have := hx.1.1; omega, by have := hx.1.2; omega, .inr (.inr ⟨(hug x).2 hx.2.1, by omega⟩)⟩) hFg
 refine ⟨c', ?_, ?_⟩
 ·have e := mixB_set (b := .mk n q d (l ++ [bb])) (by omega : i < bs0.length) (by omega) hs1
  rw [e] at hput; exact hput
 ·refine h2'.map (fun x e => ?_) (fun _ h => h) ?_
  ·simp only [Value.ownBlock, Option.some.injEq] at e
   subst e
   have hx : gu < W.heap.size := (Array.getElem?_eq_some_iff.1 hgu).1
   exact x3 gu hx (fun e => by subst e; exact (hF3U gu hFg hFu).1 rfl) (fun e => (hF3U gu (hlvF gu e).1.1 hFu).1 rfl)
  ·rintro k G G' cc hk hG hGG ⟨b', hb1, hb2⟩
   refine ⟨b', hb1, fun hle => ?_⟩
   refine Bd.OAt.mono (fun _ h => h) _ _ _ _ hGG (Bd.OAt.keeps hkA _ _ _ (fun x hx => ?_) (hb2 (by omega)))
   obtain ⟨y1, y2, y3⟩ := hG x hx
   exact x3 x (by have := y1.2; omega) (fun e => by subst e; have := (hF3U x hFg y1).2; omega) (fun e => by have := (hF3U x (hlvF x e).1.1 y1).2; omega)
end Go.Proofs.Ytecljchifebljaa
namespace Go.Proofs.Ytecljchifebljaa
open Go Go.RowKit
theorem grw_none {w w' : World} {v : Value} (h : Grw w w' (.slice none 0 0) v) : Below w.heap.size w w' := ⟨h.1.os, h.1.tape, h.1.output, h.1.size, fun k hk => h.1.block k hk (by simp [Value.ownBlock])⟩
open Classical in
theorem RowN.join {S F G : Nat → Prop} {w w9 : World} {v v2 v' : Value} {bs rs : List Bd} {xs ys : List Value} (h : RowN S F w v bs) (k : RowN S G w v2 rs) (hFG : ∀ x, F x → ¬ G x) (hx : w.ownsRow 0 60 12 v bs.length xs) (hy : w.ownsRow 0 60 12 v2 rs.length ys)
  (h9 : w9.ownsRow 0 60 12 v' (bs.length + rs.length) (xs ++ ys)) (hk : KeepsB S w w9) (hold : ∀ x, x < w.heap.size → v.ownBlock ≠ some x → w9.heap[x]? = w.heap[x]?) (hv : v'.ownBlock = v.ownBlock ∨ (∃ b, v'.ownBlock = some b ∧ w.heap.size ≤ b)) :
  RowN S (fun x => F x ∨ G x ∨ v'.ownBlock = some x) w9 v' (bs ++ rs) := by
 have h0 := h.bound
 have k0 := k.bound
 rw [RowN_iff] at h0 k0
 obtain ⟨xs', c, h1, h2, h3⟩ := h0
 obtain ⟨ys', c2, k1, k2, k3⟩ := k0
 have e1 := ownsRow_one h1 hx
 have e2 := ownsRow_one k1 hy
 subst e1; subst e2
 have hl : xs'.length = bs.length * 12 := hx.1
 have hne : ∀ x, x < w.heap.size → v.ownBlock ≠ some x → v'.ownBlock ≠ some x := fun x hx hx2 => by
  rcases hv with e | ⟨y, e, hy⟩
  ·rw [e]; exact hx2
  ·rw [e]; intro e; injection e with e; omega
 have hgv : ∀ x, G x → v.ownBlock ≠ some x := fun x hx e => hFG x (h2 x e).1 hx
 rw [RowN_iff]
 refine ⟨_, fun x => if G x then bs.length + c2 x else c x, by rw [List.length_append]; exact h9, fun g hg => .inr (.inr hg), fun j hj => ?_⟩
 rw [List.length_append] at hj
 by_cases hlt : j < bs.length
 ·obtain ⟨d, d1, d2, d3⟩ := h3 j hlt
  refine ⟨d, d1, fun t ht => ?_, ?_⟩
  ·rw [List.getElem?_append_left (by omega)]; exact d2 t ht
  ·rw [List.getElem_append_left hlt]
   have d4 := Bd.OAt.keeps hk _ _ _ (fun x (hx : (F x ∧ x < w.heap.size) ∧ v.ownBlock ≠ some x ∧ c x = j) => hold x hx.1.2 hx.2.1) d3
   refine Bd.OAt.mono (fun _ h => h) _ _ _ _ ?_ d4
   rintro x ⟨⟨x1, x2⟩, x3, x4⟩
   refine ⟨.inl x1, hne x x2 x3, ?_⟩
   show (if G x then bs.length + c2 x else c x) = j
   rw [if_neg (hFG x x1)]; exact x4
 ·obtain ⟨d, d1, d2, d3⟩ := k3 (j - bs.length) (by omega)
  refine ⟨d, d1, fun t ht => ?_, ?_⟩
  ·rw [List.getElem?_append_right (by omega), ← d2 t ht]; congr 1; omega
  ·rw [List.getElem_append_right (by omega)]
   have d4 := Bd.OAt.keeps hk _ _ _ (fun x (hx : (G x ∧ x < w.heap.size) ∧ v2.ownBlock ≠ some x ∧ c2 x = j - bs.length) => hold x hx.1.2 (hgv x hx.1.1)) d3
   refine Bd.OAt.mono (fun _ h => h) _ _ _ _ ?_ d4
   rintro x ⟨⟨x1, x2⟩, x3, x4⟩
   refine ⟨.inr (.inl x1), hne x x2 (hgv x x1), ?_⟩
   show (if G x then bs.length + c2 x else c x) = j
   rw [if_pos x1]; omega
theorem run_appPM (w : World) (ty : Nat) (v : Value) (n : Nat) (xs : List Value) (hown : w.ownsRow 0 60 12 v n xs) (v2 : Value) (m : Nat) (ys : List Value) (hy : w.ownsRow 0 60 12 v2 m ys) (h1 : ∀ u ∈ ys, u.oneCell' = true) (hn : n + m ≤ 1000000000) :
  ∃ v' w', (Builtin.append_ #[40, 40] ty #[v, v2]).run Try.prog w = .ok v' w' ∧ w'.ownsRow 0 60 12 v' (n + m) (xs ++ ys) ∧ w.grownBy w' v.ownBlock ∧ (v'.ownBlock = v.ownBlock ∨ ∃ b, v'.ownBlock = some b ∧ w.heap.size ≤ b) := by
 obtain ⟨i, hi, hz, hs, hb⟩ := info_parts infoP12
 rcases hy.2 with ⟨rfl, rfl⟩ | ⟨g, cap, cur, rfl, _, hh, hnc, hcm, hcs, ht⟩
 ·have hrun := run_append_owned_none (P := Try.prog) (w := w) 0 40 ty 60 i 12 Try.underlying40 hi v n _ hown
  have hys : ys = [] := List.length_eq_zero_iff.1 (by rw [hy.1])
  subst hys
  exact ⟨v, w, hrun, by rw [List.append_nil, Nat.add_zero]; exact hown, ⟨rfl, rfl, rfl, Nat.le_refl _, fun _ _ _ => rfl⟩, .inl rfl⟩
 ·have hl1 : ys.length = m * 12 := hy.1
  have hlt : m * 12 ≤ cap * 12 := Nat.mul_le_mul_right 12 hnc
  have hnews' : ∀ j u, ys[j]? = some u → w.cell? ((⟨g, 0, none⟩ : Addr).add j) = some u := fun j u hu => by
   have e : (⟨g, 0, none⟩ : Addr).add j = ⟨g, j, none⟩ := by unfold Addr.add; split <;> simp_all
   have hj : j < ys.length := (List.getElem?_eq_some_iff.1 hu).1
   rw [e, Lib.cell_of_heap hh, ← hu, ← ht, List.getElem?_take, if_pos (by omega)]; simp
  obtain ⟨v', w', hr, h2, h3, h4⟩ := run_append_own (P := Try.prog) w 0 40 ty 60 i (.agg ZPB) 12 192 Try.underlying40 hi hz hs hb rfl (by decide) v n xs hown ⟨g, 0, none⟩ m cap ys hl1 hnews' h1 (by unfold maxLen; omega) (by omega) (Nat.zero_le _)
  refine ⟨v', w', hr, h2, h3, ?_⟩
  have hl2 : ys.length = m * i.size := by rw [hs]; exact hl1
  rcases hown.2 with ⟨rfl, rfl⟩ | ⟨g0, cap0, cur0, rfl, _, hg0, hnc0, hcm0, hcs0, _⟩
  ·by_cases hm : m = 0
   ·left; rw [h4.2 ⟨rfl, hm⟩]
   ·have hr2 := run_append_nil (P := Try.prog) w 40 ty 60 i (.agg ZPB) Try.underlying40 hi hz ⟨g, 0, none⟩ m cap ys hl2 hnews' (by omega) (by omega) (by rw [hb]; omega)
    rw [hr] at hr2
    injection hr2 with e1 e2
    right; rw [e1]; exact ⟨_, rfl, Nat.le_refl _⟩
  ·by_cases hroom : n + m ≤ cap0
   ·have hfit : n * i.size + ys.length ≤ cur0.size := by rw [hs, hl1, hcs0]; omega
    have hr2 := run_append_room (P := Try.prog) w 40 ty 60 i Try.underlying40 hi g0 n cap0 cur0 hg0 ⟨g, 0, none⟩ m cap ys hl2 hnews' h1 hroom hfit
    rw [hr] at hr2
    injection hr2 with e1 e2
    left; rw [e1]; rfl
   ·have hlo : xs.length = n * i.size := by rw [hs]; exact hown.1
    have hr2 := run_append_grow (P := Try.prog) w 40 ty 60 i (.agg ZPB) Try.underlying40 hi hz ⟨g0, 0, none⟩ n cap0 xs hlo (hown.cells (g := g0) rfl) ⟨g, 0, none⟩ m cap ys hl2 hnews' (by omega) (by omega) (growslice_fits (by omega) (by rw [hb]; omega))
    rw [hr] at hr2
    injection hr2 with e1 e2
    right; rw [e1]; exact ⟨_, rfl, Nat.le_refl _⟩
end Go.Proofs.Ytecljchifebljaa
namespace Go.Proofs.Ytecljchifebljaa
open Go Go.RowKit
theorem RowC.own {F : Nat → Prop} {E : Nat → (Nat → Prop) → Array Value → Prop} {w : World} {v : Value} {n : Nat} {c : Nat → Nat} (h : RowC F E w v n c) : ∀ g, v.ownBlock = some g → F g ∧ g < w.heap.size := by
 obtain ⟨xs, h1, h2, _⟩ := h
 exact fun g e => ⟨h2 g e, (h1.lt g e).2⟩
theorem inv3_start {A K N1 : Nat} {wp w10 : World} {bs0 bs1 r : List Bd} {u v1 : Value} {m : Nat} {c : Nat → Nat} (hAK : A ≤ K) (h : RowC (FW K wp) (EO A bs0 wp) wp v1 m c) (hb : Below wp.heap.size wp w10) (hN1 : wp.heap.size ≤ N1) (hN2 : N1 ≤ w10.heap.size) (hu : OwnR A N1 w10 u r) (hr : r.length = m) :
  ∃ cu, Inv3 A K N1 w10.heap.size bs0 bs1 r u cu v1 m 0 w10 := by
 have hu' := RowN.bound hu
 rw [RowN_C] at hu'
 obtain ⟨cu, hcu⟩ := hu'
 rw [hr] at hcu
 have hs := hb.size
 refine ⟨cu, c, ?_, ?_⟩
 ·refine h.map (fun g e => hb.block g (h.own g e).2) (fun x hx => ⟨hx.1, by have := hx.2; omega, .inl (by have := hx.2; omega)⟩) ?_
  rintro k G G' cs hk hG hGG ⟨b, hb1, hb2⟩
  refine ⟨b, by rw [mixB_zero]; exact hb1, Bd.OAt.mono (fun _ h => h) _ _ _ _ hGG (Bd.OAt.keeps (KeepsB.of_below hb) _ _ _ (fun x hx => hb.block x (hG x hx).1.2) hb2)⟩
 ·refine hcu.map (fun _ _ => rfl) (fun x hx => hx) ?_
  rintro k G G' cs hk hG hGG ⟨b, hb1, hb2⟩
  exact ⟨b, hb1, fun _ => Bd.OAt.mono (fun _ h => h) _ _ _ _ hGG hb2⟩
theorem inv3_end {A K N1 N2 : Nat} {W : World} {bs0 bs1 r : List Bd} {u v1 : Value} {cu : Nat → Nat} {m : Nat} (h : Inv3 A K N1 N2 bs0 bs1 r u cu v1 m m W) (h0 : bs0.length = m) (h1 : bs1.length = m) : ∃ c, RowC (FW K W) (EO A bs1 W) W v1 m c := by
 obtain ⟨c, hc, _⟩ := h
 rw [mixB_end h0 h1] at hc
 exact ⟨c, hc.map (fun _ _ => rfl) (fun x hx => ⟨hx.1, hx.2.1⟩) (fun k G G' cs hk hG hGG ⟨b, hb1, hb2⟩ => ⟨b, hb1, Bd.OAt.mono (fun _ h => h) _ _ _ _ hGG hb2⟩)⟩
theorem rows_shape {ns : List (Dt × Int)} {all : List (List Bd)} {r : List Bd} (k : Nat) (b c : Bd) (h : (mkRows ns all)[k]? = some b) (hc : r[k]? = some c) : (mkRows ns (all ++ [r]))[k]? = some (Bd.mk b.name b.deep b.dat (b.rows ++ [c])) := by
 obtain ⟨hk, e⟩ := List.getElem?_eq_some_iff.1 h
 have hk' : k < ns.length := by rw [mkRows_length] at hk; exact hk
 rw [List.getElem?_eq_getElem (by rw [mkRows_length]; exact hk'), mkRows_get ns _ k hk']
 rw [mkRows_get ns all k hk'] at e
 subst e
 rw [List.map_append, List.map_cons, List.map_nil, hc]
 rfl
theorem own_pos {w : World} {B L : Nat} {v : Value} {xs : List Value} (h : w.ownsRow B 60 12 v (L + 1) xs) : ∃ gn cap, v = .slice (some ⟨gn, 0, none⟩) (L + 1) cap ∧ gn < w.heap.size := by
 rcases h.2 with ⟨_, hz⟩ | ⟨g, cap, cur, rfl, _, hh, _⟩
 ·omega
 ·exact ⟨g, cap, rfl, (Array.getElem?_eq_some_iff.1 hh).1⟩
theorem wp_appPx {o : Oper} {a : Act} {w : World} {K : Act → World → Prop} {Q : Exit → Act → World → Prop} (s x : Operand)
  (ho : o.op = .call { callee := .builtin .append, args := #[s, x], argTypes := #[40, 40] }) (v : Value) (n : Nat) (xs : List Value) (hs : a.eval s = v) (hown : w.ownsRow 0 60 12 v n xs)
  (g0 c : Nat) (hx : a.eval x = .slice (some ⟨g0, 0, none⟩) 1 c) (news : List Value) (hl : news.length = 12)
  (hnews : ∀ j u, news[j]? = some u → w.cell? ⟨g0, j, none⟩ = some u) (h1 : ∀ u ∈ news, u.oneCell' = true) (hn : n + 1 ≤ 1000000000)
  (h : ∀ v' w', w'.ownsRow 0 60 12 v' (n + 1) (xs ++ news) → w.grownBy w' v.ownBlock → (v'.ownBlock = v.ownBlock ∨ v'.ownBlock = some w.heap.size) → K (a.put o.dst v') w') : o.wp Try.prog a w K Q := by
 obtain ⟨v', w', hr, h2, h3, h4⟩ := run_appP w 0 o.type v n xs hown g0 c news hl hnews h1 hn (Nat.zero_le _)
 unfold Oper.wp execOp
 simp only [ho, resolve, invoke, builtin, Sem.run_bind, Sem.run_pure, Result.andThen_ok, List.map_toArray, List.map_cons, List.map_nil, hs, hx, hr]
 exact h v' w' h2 h3 h4
theorem wpList_appPM {ops : Array Oper} {rest : List Oper} {o : Oper} {a : Act} {w : World} {Q : Exit → Act → World → Prop} (hgd : o.guard = none) (s x : Operand)
  (ho : o.op = .call { callee := .builtin .append, args := #[s, x], argTypes := #[40, 40] }) (v v2 : Value) (n m : Nat) (xs ys : List Value) (hs : a.eval s = v) (hx : a.eval x = v2) (hown : w.ownsRow 0 60 12 v n xs) (hy : w.ownsRow 0 60 12 v2 m ys)
  (h1 : ∀ u ∈ ys, u.oneCell' = true) (hn : n + m ≤ 1000000000)
  (h : ∀ v' w', w'.ownsRow 0 60 12 v' (n + m) (xs ++ ys) → w.grownBy w' v.ownBlock → (v'.ownBlock = v.ownBlock ∨ ∃ b, v'.ownBlock = some b ∧ w.heap.size ≤ b) → wpList Try.prog ops Q rest (a.put o.dst v') w') : wpList Try.prog ops Q (o :: rest) a w := by
 refine wpList_plain hgd fun K hK => ?_
 obtain ⟨v', w', hr, h2, h3, h4⟩ := run_appPM w o.type v n xs hown v2 m ys hy h1 hn
 unfold Oper.wp execOp
 simp only [ho, resolve, invoke, builtin, Sem.run_bind, Sem.run_pure, Result.andThen_ok, List.map_toArray, List.map_cons, List.map_nil, hs, hx, hr]
 exact hK _ _ (h v' w' h2 h3 h4)
theorem RowN.one {S F : Nat → Prop} {w : World} {v : Value} {bs : List Bd} {xs : List Value} (h : RowN S F w v bs) (hx : w.ownsRow 0 60 12 v bs.length xs) : ∀ u ∈ xs, u.oneCell' = true := by
 rw [RowN_iff] at h
 obtain ⟨xs', c, h1, h2, h3⟩ := h
 have e := ownsRow_one h1 hx
 subst e
 intro u hu
 obtain ⟨t, ht, rfl⟩ := List.getElem_of_mem hu
 have hl := h1.1
 obtain ⟨cs, k1, k2, k3⟩ := h3 (t / 12) (by omega)
 obtain ⟨nk, nt, nmo, nmn, nmc, nlo, nln, nlc, np, qq, dk, dt, dmo, dmn, dmc, dlo, dln, dlc, dp, ro, rn, rc, rfl⟩ := twelve k3
 have hk := k2 (t % 12) (Nat.mod_lt _ (by decide))
 rw [Nat.div_add_mod, List.getElem?_eq_getElem ht] at hk
 have hm := Array.mem_of_getElem? hk.symm
 simp only [List.mem_toArray, List.mem_cons, List.not_mem_nil, or_false] at hm
 rcases hm with h | h | h | h | h | h | h | h | h | h | h | h <;> rw [h] <;> rfl
theorem info60s : (Try.prog.info? 60).map (·.size) = some 12 := by kernel_rfl
end Go.Proofs.Ytecljchifebljaa
