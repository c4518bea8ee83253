/- The copies' pointers: one is set. -/
import Derived.Test.YtjecjlnkpbbanaaK11
namespace Go.Proofs.Ytjecjlnkpbbanaa
open Go Go.RowKit
set_option linter.unusedVariables false
set_option linter.unusedSimpArgs false
def QD (os : List Ob) (dp : Nat) (D : List Int) (Q : List (List Int)) (i : Nat) : Prop :=
  ∀ (j : Nat) (a : Int), j < i → D[j]? = some a → Q[j]? = some ((ptrsOf os a).map fun p => (pos os D (shortO os dp p) : Int)) ∧ ∀ p ∈ ptrsOf os a, shortO os dp p ∈ D
theorem QD.zero (os : List Ob) (dp : Nat) (D : List Int) (Q : List (List Int)) : QD os dp D Q 0 := fun j a h => by omega
theorem QD.ext {os : List Ob} {dp : Nat} {D : List Int} {Q : List (List Int)} {i : Nat} (h : QD os dp D Q i) (hi : i ≤ D.length) (hl : Q.length = D.length) (E : List Int) (R : List (List Int)) : QD os dp (D ++ E) (Q ++ R) i := by
  intro j a hj ha
  rw [List.getElem?_append_left (by omega)] at ha
  obtain ⟨h1, h2⟩ := h j a hj ha
  refine ⟨?_, fun p hp => List.mem_append_left _ (h2 p hp)⟩
  rw [List.getElem?_append_left (by omega), h1]
  congr 1
  apply List.map_congr_left
  intro p hp
  rw [pos_app _ (h2 p hp)]
theorem QD.next {os : List Ob} {dp : Nat} {D : List Int} {Q : List (List Int)} {i : Nat} (h : QD os dp D Q i) {a : Int} (hi : D[i]? = some a) (hl : Q.length = D.length) (hm : ∀ p ∈ ptrsOf os a, shortO os dp p ∈ D) : QD os dp D (Q.set i ((ptrsOf os a).map fun p => (pos os D (shortO os dp p) : Int))) (i + 1) := by
  intro j x hj hx
  have hil : i < D.length := (List.getElem?_eq_some_iff.1 hi).1
  by_cases e : i = j
  · subst e
    rw [hi] at hx
    injection hx with hx
    subst hx
    exact ⟨by rw [List.getElem?_set, if_pos rfl, if_pos (by omega)], hm⟩
  · obtain ⟨h1, h2⟩ := h j x (by omega) hx
    exact ⟨by rw [List.getElem?_set, if_neg e]; exact h1, h2⟩
theorem QD.all {os : List Ob} {dp : Nat} {D : List Int} {Q : List (List Int)} {i : Nat} (h : QD os dp D Q i) (hi : D.length ≤ i) (hl : Q.length = D.length) : Q = finQ os dp D := by
  apply List.ext_getElem?
  intro j
  unfold finQ
  rw [List.getElem?_map]
  cases hd : D[j]? with
  | none =>
    rw [List.getElem?_eq_none_iff] at hd
    rw [List.getElem?_eq_none (by omega)]; rfl
  | some a =>
    have := (List.getElem?_eq_some_iff.1 hd).1
    rw [(h j a (by omega) hd).1]; rfl
theorem cps_ob {os : List Ob} {D : List Int} {Q : List (List Int)} (h : Lk os D Q) (hn : D.Nodup) {i : Nat} {a : Int} (hi : D[i]? = some a) {q : List Int} (hq : Q[i]? = some q) : ob (cps os D Q) (pos os D a : Nat) = some (newO (hdo os a).t q (numsOf os a)) := by
  obtain ⟨h1, rfl⟩ := List.getElem?_eq_some_iff.1 hi
  obtain ⟨h2, rfl⟩ := List.getElem?_eq_some_iff.1 hq
  rw [ob_loc (cps_loc h hn i h1), cps_at h i h1 h2]
theorem cps_mem {os : List Ob} {D : List Int} {Q : List (List Int)} (h : Lk os D Q) (hn : D.Nodup) {x : Int} (hx : x ∈ D) : (ob (cps os D Q) (pos os D x : Nat)).isSome = true := by
  obtain ⟨i, hi, rfl⟩ := List.getElem_of_mem hx
  have hl := h.len
  rw [cps_ob h hn (List.getElem?_eq_getElem hi) (List.getElem?_eq_getElem (show i < Q.length by omega))]; rfl
theorem cps_upd {os : List Ob} {D : List Int} {Q : List (List Int)} (h : Lk os D Q) {i : Nat} {a : Int} (hi : D[i]? = some a) {q : List Int} (hq : Q[i]? = some q) (j : Nat) (hj : j < q.length) (v : Int) : upd (cps os D Q) i (fun o => setO o j v) = cps os D (Q.set i (q.set j v)) := by
  obtain ⟨h1, rfl⟩ := List.getElem?_eq_some_iff.1 hi
  obtain ⟨h2, rfl⟩ := List.getElem?_eq_some_iff.1 hq
  have hc : i < (cps os D Q).length := by rw [cps_len h]; exact h1
  rw [upd_eq hc, cps_at h i h1 h2, newO_set _ _ _ _ _ hj, cps_set h i h1 h2]
theorem Cop.set {B : Nat} {w w' : World} {C : Nat → Nat} {c b : Nat} {G : Option Nat} {os : List Ob} {m dp eb pb : Nat} {pk : List (Option Nat)} {b2 : Nat} {G2 G3 : Option Nat} {kb : Nat} {dv : Value} {D : List Int} {Q : List (List Int)} (h : Cop B w C c b G os m dp eb pb pk b2 G2 kb dv D Q)
    {i : Nat} (hi : i < D.length) {q : List Int} (hq : q.length = (ptrsOf os D[i]).length) (hH : HpO w' b2 G3 (cps os D (Q.set i q)) m) (hF : Fr (own b2 G2) w w') (hG : ∀ k, G3 = some k → G2 = some k ∨ w.heap.size ≤ k) :
    ∃ C', Cop B w' C' c b G os m dp eb pb pk b2 G3 kb dv D (Q.set i q) ∧ Cst C w C' w' := by
  obtain ⟨ks, k1, k2⟩ := h.k
  obtain ⟨l1, l2⟩ := h.low'
  obtain ⟨hmb, es, e1, e2⟩ := h.memo
  have hown : ∀ k, own b2 G2 k → C k = 5 := by
    rintro k (rfl | hk)
    · exact h.c2
    · exact h.cg2 k hk
  have hf : Fr (fun k => C k = 5) w w' := ⟨hF.os, hF.tape, hF.output, hF.size, fun k hk hn => hF.block k hk (fun e => hn (hown k e))⟩
  have hcol : ∀ k, k < w.heap.size → (if G3 = some k then 5 else C k) = C k := by
    intro k hk
    split
    · rename_i e1
      rcases hG k e1 with e2 | e2
      · exact (h.cg2 k e2).symm
      · omega
    · rfl
  have hcn : ∀ k, w'.heap.size ≤ k → (if G3 = some k then 5 else C k) = 0 := by
    intro k hk
    rw [if_neg (fun e => by have := (hH.1.glt k e).1; omega)]
    exact hmb.fresh k (by have := hf.size; omega)
  have hm1 := hmb.fr hf (fun k hk => by rw [hk]; decide)
  have hm' : Memo w' (fun k => if G3 = some k then 5 else C k) c b G os m eb pb pk :=
    ⟨⟨hm1.hp, (hcol _ hmb.hp.1.lt).trans hmb.cb, fun k hk => (hcol _ (hmb.hp.1.glt k hk).1).trans (hmb.cg k hk), (hcol _ l2).trans hmb.cc, (hcol _ e1.lt).trans hmb.ce, (hcol _ hmb.p.lt).trans hmb.cp, fun i q hq => by
      obtain ⟨l, a1, _⟩ := hmb.q i q hq
      exact (hcol _ a1.lt).trans (hmb.cq i q hq), hmb.inj, hmb.len, hm1.p, hm1.q, hm1.k0, hm1.k1, hm1.k2, hcn⟩, es, e1.fr' hf (fun e => by rw [hmb.ce] at e; cases e), e2⟩
  refine ⟨fun k => if G3 = some k then 5 else C k, ⟨hm', (hf.block c l2 (fun e => by rw [hmb.cc] at e; cases e)).trans h.cell, hH, h.lk.set i q hi hq, h.nd, h.vd, ⟨ks, k1.fr' hf (fun e => by rw [h.ck] at e; cases e), k2⟩, own_fr h.done hf (fun k hk e => by rw [h.cd k hk] at e; cases e), (hcol _ h.new.1.lt).trans h.c2, fun k hk => if_pos hk, (hcol _ k1.lt).trans h.ck, fun k hk => (hcol _ (h.done.lt k hk).2).trans (h.cd k hk), fun k hk hk6 => ?_⟩, ⟨⟨hf.os, hf.tape, hf.output, hf.size, fun k hk hn => hf.block k hk (fun e => hn (by omega))⟩, hcol⟩⟩
  by_cases e : k < w.heap.size
  · have := hcol k e
    simp only [this] at hk hk6
    exact h.low k hk hk6
  · omega
end Go.Proofs.Ytjecjlnkpbbanaa
