/- A copier in memory. -/
import Derived.Test.YtkekekdkfjjifaaK7
namespace Go.Proofs.Ytkekekdkfjjifaa
open Go Go.RowKit
set_option linter.unusedVariables false
set_option linter.unusedSimpArgs false
theorem fit_ok {o : Ob} (h : o.Ok) {ps : List Int} (hp : ps.length = o.ptrs.length) : fitF o.tag ps o.nums = true := by
  have h1 := h.shp
  have h2 := h.pn
  have h3 := h.p
  have h4 := h.n
  have e1 : o.ptrs.length ≤ 60 := by unfold Ob.ptrs; rw [List.length_take]; omega
  have e2 : o.nums.length ≤ 60 := by unfold Ob.nums; rw [List.length_take]; omega
  unfold fitF
  simp only [Bool.and_eq_true, decide_eq_true_eq]
  refine ⟨⟨by omega, e2⟩, ?_⟩
  have t1 := h.t1
  have t2 := h.t2
  split
  · rename_i e
    have e : o.tag = 2 := by omega
    simp only [Bool.and_eq_true, decide_eq_true_eq]
    exact ⟨by rw [hp]; exact h1.2.1 e, by rw [h1.2.2.2 (.inr e)]; rfl⟩
  · split
    · rename_i e
      have e : o.tag = 5 := by omega
      simp only [Bool.and_eq_true, decide_eq_true_eq]
      exact ⟨by rw [hp]; exact h1.1 e, by rw [h1.2.2.2 (.inl e)]; rfl⟩
    · split
      · rename_i e
        have e : o.tag = 6 := by omega
        obtain ⟨a1, a2⟩ := h1.2.2.1 e
        rcases a2 with a2 | a2 <;> rw [a2, hp, a1] <;> decide
      · simp only [Bool.and_eq_true, decide_eq_true_eq]; omega
structure Cop (B : Nat) (w : World) (C : Nat → Nat) (c b : Nat) (G : Option Nat) (os : List Ob) (m dp eb pb : Nat) (pk : List (Option Nat)) (b2 : Nat) (G2 : Option Nat) (kb : Nat) (dv : Value) (D : List Int) (Q : List (List Int)) : Prop where
  memo : Memo w C c b G os m eb pb pk
  cell : w.heap[c]? = some (.cells #[.pointer (some ⟨b, 0, none⟩), .slice (some ⟨eb, 0, none⟩) (total os) (total os), .slice (some ⟨pb, 0, none⟩) (total os) (total os), .int .i64 dp, .pointer (some ⟨b2, 0, none⟩), .slice (some ⟨kb, 0, none⟩) (total os) (total os), dv] 61 (0, 0))
  new : HpO w b2 G2 (cps os D Q) m
  lk : Lk os D Q
  nd : D.Nodup
  vd : ∀ d ∈ D, Vd os d
  k : ∃ ks, IRw w kb ks ∧ ks.length = total os ∧ ∀ (i : Nat) (v : Int), ks[i]? = some v → Vd os i → v = if (i : Int) ∈ D then (pos os D i : Int) else -1
  done : w.ownsRow B 3 1 dv D.length (D.map (Value.int .i64))
  c2 : C b2 = 5
  cg2 : ∀ k, G2 = some k → C k = 5
  ck : C kb = 7
  cd : ∀ k, dv.ownBlock = some k → C k = 8
  low : ∀ k, C k ≠ 0 → C k ≠ 6 → B ≤ k
/-- What a call of the copier's may have turned. -/
structure Cst (C : Nat → Nat) (w : World) (C' : Nat → Nat) (w' : World) : Prop where
  fr : Fr (fun k => C k ≠ 0 ∧ C k ≠ 6) w w'
  col : ∀ k, k < w.heap.size → C' k = C k
theorem Cst.refl (C : Nat → Nat) (w : World) : Cst C w C w := ⟨Fr.refl _ _, fun _ _ => rfl⟩
theorem Cst.trans {C C' C9 : Nat → Nat} {w w' w9 : World} (h : Cst C w C' w') (k : Cst C' w' C9 w9) : Cst C w C9 w9 :=
  ⟨h.fr.trans k.fr (fun x hx e => by rw [h.col x hx] at e; exact e), fun x hx => by rw [k.col x (Nat.lt_of_lt_of_le hx h.fr.size), h.col x hx]⟩
theorem Cst.below {C C' : Nat → Nat} {w w' w9 : World} (h : Cst C w C' w') (hb : Below w'.heap.size w' w9) : Cst C w C' w9 :=
  ⟨h.fr.trans (F' := fun _ => False) (Fr.of_below hb) (fun _ _ e => e.elim), h.col⟩
theorem Mst.cst {C C' : Nat → Nat} {pk pk' : List (Option Nat)} {w w' : World} (h : Mst C pk w C' pk' w') : Cst C w C' w' :=
  ⟨⟨h.fr.os, h.fr.tape, h.fr.output, h.fr.size, fun k hk hn => h.fr.block k hk (fun e => hn (by omega))⟩, h.col⟩
theorem Cop.low' {B : Nat} {w : World} {C : Nat → Nat} {c b : Nat} {G : Option Nat} {os : List Ob} {m dp eb pb : Nat} {pk : List (Option Nat)} {b2 : Nat} {G2 : Option Nat} {kb : Nat} {dv : Value} {D : List Int} {Q : List (List Int)} (h : Cop B w C c b G os m dp eb pb pk b2 G2 kb dv D Q) : B ≤ c ∧ c < w.heap.size :=
  ⟨h.low c (by rw [h.memo.1.cc]; decide) (by rw [h.memo.1.cc]; decide), (Array.getElem?_eq_some_iff.1 h.cell).1⟩
/-- The old heap's side has turned. -/
theorem Cop.memo_turn {B : Nat} {w w' : World} {C C' : Nat → Nat} {c b : Nat} {G : Option Nat} {os : List Ob} {m dp eb pb : Nat} {pk pk' : List (Option Nat)} {b2 : Nat} {G2 : Option Nat} {kb : Nat} {dv : Value} {D : List Int} {Q : List (List Int)} (h : Cop B w C c b G os m dp eb pb pk b2 G2 kb dv D Q)
    (hm : Memo w' C' c b G os m eb pb pk') (hs : Mst C pk w C' pk' w') : Cop B w' C' c b G os m dp eb pb pk' b2 G2 kb dv D Q := by
  obtain ⟨ks, k1, k2⟩ := h.k
  obtain ⟨l1, l2⟩ := h.low'
  have c2 : C' b2 = 5 := by rw [hs.col _ h.new.1.lt]; exact h.c2
  have hG : ∀ k, G2 = some k → k < w.heap.size := fun k hk => (h.new.1.glt k hk).1
  have hD : ∀ k, dv.ownBlock = some k → k < w.heap.size := fun k hk => (h.done.lt k hk).2
  refine ⟨hm, (hs.fr.block c l2 (fun e => by rw [h.memo.1.cc] at e; omega)).trans h.cell, h.new.fr hs.fr (fun e => by rw [h.c2] at e; omega) (fun k hk e => by rw [h.cg2 k hk] at e; omega), h.lk, h.nd, h.vd, ⟨ks, k1.fr' hs.fr (fun e => by rw [h.ck] at e; omega), k2⟩,
    own_fr h.done hs.fr (fun k hk e => by rw [h.cd k hk] at e; omega), c2, fun k hk => by rw [hs.col _ (hG k hk)]; exact h.cg2 k hk, by rw [hs.col _ k1.lt]; exact h.ck, fun k hk => by rw [hs.col _ (hD k hk)]; exact h.cd k hk, fun k hk hk6 => ?_⟩
  by_cases e : k < w.heap.size
  · rw [hs.col k e] at hk hk6; exact h.low k hk hk6
  · omega
theorem Cop.below {B : Nat} {w w' : World} {C : Nat → Nat} {c b : Nat} {G : Option Nat} {os : List Ob} {m dp eb pb : Nat} {pk : List (Option Nat)} {b2 : Nat} {G2 : Option Nat} {kb : Nat} {dv : Value} {D : List Int} {Q : List (List Int)} (h : Cop B w C c b G os m dp eb pb pk b2 G2 kb dv D Q)
    (hb : Below w.heap.size w w') : Cop B w' C c b G os m dp eb pb pk b2 G2 kb dv D Q :=
  h.memo_turn (h.memo.below hb) ((Mst.refl C pk w).below hb)
theorem Cop.cells {B : Nat} {w : World} {C : Nat → Nat} {c b : Nat} {G : Option Nat} {os : List Ob} {m dp eb pb : Nat} {pk : List (Option Nat)} {b2 : Nat} {G2 : Option Nat} {kb : Nat} {dv : Value} {D : List Int} {Q : List (List Int)} (h : Cop B w C c b G os m dp eb pb pk b2 G2 kb dv D Q) :
    w.cell? ⟨c, 0, none⟩ = some (.pointer (some ⟨b, 0, none⟩)) ∧ w.cell? ⟨c, 3, none⟩ = some (.int .i64 dp) ∧ w.cell? ⟨c, 4, none⟩ = some (.pointer (some ⟨b2, 0, none⟩)) ∧ w.cell? ⟨c, 5, none⟩ = some (.slice (some ⟨kb, 0, none⟩) (total os) (total os)) ∧ w.cell? ⟨c, 6, none⟩ = some dv := by
  refine ⟨?_, ?_, ?_, ?_, ?_⟩ <;> rw [cell_of_row _ _ _ _ _ _ h.cell] <;> rfl
/-- The state behind one more copy: the new heap has it, the table tells it, the row of what is done has it. -/
theorem Cop.more {B : Nat} {w w' : World} {C C' : Nat → Nat} {c b : Nat} {G : Option Nat} {os : List Ob} {m dp eb pb : Nat} {pk : List (Option Nat)} {b2 : Nat} {G2 G3 : Option Nat} {kb : Nat} {dv dv' : Value} {D : List Int} {Q : List (List Int)} (h : Cop B w C c b G os m dp eb pb pk b2 G2 kb dv D Q)
    {e : Nat} (he : Vd os e) (hn : (e : Int) ∉ D) {q : List Int} (hq : q.length = (ptrsOf os e).length)
    (hf : Fr (fun k => C k = 5 ∨ C k = 7 ∨ C k = 8 ∨ C k = 1) w w') (hcol : ∀ k, k < w.heap.size → C' k = C k) (hcn : ∀ k, w'.heap.size ≤ k → C' k = 0)
    (hcell : w'.heap[c]? = some (.cells #[.pointer (some ⟨b, 0, none⟩), .slice (some ⟨eb, 0, none⟩) (total os) (total os), .slice (some ⟨pb, 0, none⟩) (total os) (total os), .int .i64 dp, .pointer (some ⟨b2, 0, none⟩), .slice (some ⟨kb, 0, none⟩) (total os) (total os), dv'] 61 (0, 0)))
    (hnew : HpO w' b2 G3 (cps os D Q ++ [newO (hdo os e).t q (numsOf os e)]) m) (hk : ∃ ks, IRw w kb ks ∧ IRw w' kb (ks.set e (total (cps os D Q) : Nat)) ∧ ks.length = total os ∧ ∀ (i : Nat) (v : Int), ks[i]? = some v → Vd os i → v = if (i : Int) ∈ D then (pos os D i : Int) else -1)
    (hdone : w'.ownsRow B 3 1 dv' (D.length + 1) (D.map (Value.int .i64) ++ [.int .i64 e])) (hG3 : ∀ k, G3 = some k → C' k = 5) (hd3 : ∀ k, dv'.ownBlock = some k → C' k = 8) (hlow : ∀ k, w.heap.size ≤ k → C' k ≠ 0 → B ≤ k) :
    Cop B w' C' c b G os m dp eb pb pk b2 G3 kb dv' (D ++ [(e : Int)]) (Q ++ [q]) := by
  obtain ⟨ks, k1, k2, k3, k4⟩ := hk
  obtain ⟨l1, l2⟩ := h.low'
  have hmb := h.memo.1
  obtain ⟨es, e1, e2⟩ := h.memo.2
  have hnd : (D ++ [(e : Int)]).Nodup := by rw [List.nodup_append]; exact ⟨h.nd, by simp, fun a ha b' hb => by simp at hb; subst hb; exact fun e2 => hn (e2 ▸ ha)⟩
  have hcy : ∀ j v, j < 6 → w.cell? ⟨c, j, none⟩ = some v → w'.cell? ⟨c, j, none⟩ = some v := by
    intro j v hj hv
    rw [cell_of_row _ _ _ _ _ _ h.cell] at hv
    rw [cell_of_row _ _ _ _ _ _ hcell]
    rcases (show j = 0 ∨ j = 1 ∨ j = 2 ∨ j = 3 ∨ j = 4 ∨ j = 5 by omega) with rfl | rfl | rfl | rfl | rfl | rfl <;> exact hv
  have hm' : Memo w' C' c b G os m eb pb pk := by
    refine ⟨⟨hmb.hp.fr hf (fun x => by rw [hmb.cb] at x; omega) (fun k hk x => by rw [hmb.cg k hk] at x; omega), by rw [hcol _ hmb.hp.1.lt]; exact hmb.cb, fun k hk => by rw [hcol _ (hmb.hp.1.glt k hk).1]; exact hmb.cg k hk, by rw [hcol _ l2]; exact hmb.cc, by rw [hcol _ e1.lt]; exact hmb.ce, by rw [hcol _ hmb.p.lt]; exact hmb.cp, fun i q hq => ?_, hmb.inj, hmb.len, (hf.block _ hmb.p.lt (fun x => by rw [hmb.cp] at x; omega)).trans hmb.p, fun i q hq => ?_, hcy 0 _ (by omega) hmb.k0, hcy 1 _ (by omega) hmb.k1, hcy 2 _ (by omega) hmb.k2, hcn⟩, es, e1.fr' hf (fun x => by rw [hmb.ce] at x; omega), e2⟩
    · obtain ⟨l, a1, _⟩ := hmb.q i q hq
      rw [hcol _ a1.lt]; exact hmb.cq i q hq
    · obtain ⟨l, a1, a2⟩ := hmb.q i q hq
      exact ⟨l, a1.fr' hf (fun x => by rw [hmb.cq i q hq] at x; omega), a2⟩
  refine ⟨hm', hcell, by rw [cps_snoc h.lk]; exact hnew, h.lk.app (.cons hq .nil), hnd, ?_, ⟨_, k2, by rw [List.length_set]; exact k3, ?_⟩, by rw [List.length_append, List.map_append]; exact hdone, by rw [hcol _ h.new.1.lt]; exact h.c2, hG3, by rw [hcol _ k1.lt]; exact h.ck, hd3, ?_⟩
  · intro d hd
    rcases List.mem_append.1 hd with hd | hd
    · exact h.vd d hd
    · simp at hd; subst hd; exact he
  · intro i v hv hi
    rw [List.getElem?_set] at hv
    by_cases x : e = i
    · subst x
      rw [if_pos rfl] at hv
      split at hv
      · injection hv with hv
        rw [if_pos (by simp), ← hv, cps_total h.lk, pos_end [] hn]
      · cases hv
    · rw [if_neg x] at hv
      rw [k4 i v hv hi]
      by_cases hm : (i : Int) ∈ D
      · rw [if_pos hm, if_pos (by simp [hm]), pos_app _ hm]
      · rw [if_neg hm, if_neg (by simp only [List.mem_append, List.mem_singleton, not_or]; exact ⟨hm, by omega⟩)]
  · intro k hk hk6
    by_cases x : k < w.heap.size
    · rw [hcol k x] at hk hk6; exact h.low k hk hk6
    · exact hlow k (by omega) hk
end Go.Proofs.Ytkekekdkfjjifaa
namespace Go.Proofs.Ytkekekdkfjjifaa
open Go Go.RowKit
set_option linter.unusedVariables false
set_option linter.unusedSimpArgs false
theorem Fr.grown {w w' : World} {r : Option Nat} (hg : w.grownBy w' r) : Fr (fun k => r = some k) w w' := ⟨hg.os, hg.tape, hg.output, hg.size, fun k hk hn => hg.block k hk (fun e => hn e.symm)⟩
theorem Cop.copy {B : Nat} {w w8 w10 : World} {C : Nat → Nat} {c b : Nat} {G : Option Nat} {os : List Ob} {m dp eb pb : Nat} {pk : List (Option Nat)} {b2 : Nat} {G2 G3 : Option Nat} {kb : Nat} {dv v10 : Value} {D : List Int} {Q : List (List Int)} (h : Cop B w C c b G os m dp eb pb pk b2 G2 kb dv D Q)
    {e N : Nat} (he : Vd os e) (hn : (e : Int) ∉ D) {q : List Int} (hq : q.length = (ptrsOf os e).length) (hN : N = total (cps os D Q))
    (hH : HpO w8 b2 G3 (cps os D Q ++ [newO (hdo os e).t q (numsOf os e)]) m) (hF : Fr (own b2 G2) w w8) (hG : ∀ k, G3 = some k → G2 = some k ∨ w.heap.size ≤ k)
    (ho : w10.ownsRow B 3 1 v10 (D.length + 1) (D.map (Value.int .i64) ++ [.int .i64 e])) (hg : ((w8.setCell ⟨kb, e, none⟩ (.int .i64 N)).alloc (.cells #[.int .i64 e] 3)).grownBy w10 dv.ownBlock)
    (hv : ∀ k, v10.ownBlock = some k → dv.ownBlock = some k ∨ ((w8.setCell ⟨kb, e, none⟩ (.int .i64 N)).alloc (.cells #[.int .i64 e] 3)).heap.size ≤ k) :
    ∃ C', Cop B (w10.setCell ⟨c, 6, none⟩ v10) C' c b G os m dp eb pb pk b2 G3 kb v10 (D ++ [(e : Int)]) (Q ++ [q]) ∧ Cst C w C' (w10.setCell ⟨c, 6, none⟩ v10) := by
  obtain ⟨ks, k1, k2, k3⟩ := h.k
  obtain ⟨l1, l2⟩ := h.low'
  have hcc := h.memo.1.cc
  have hown : ∀ k, own b2 G2 k → C k = 5 := by
    rintro k (rfl | hk)
    · exact h.c2
    · exact h.cg2 k hk
  have hF1 : Fr (fun k => C k = 5) w w8 := ⟨hF.os, hF.tape, hF.output, hF.size, fun k hk hn => hF.block k hk (fun e => hn (hown k e))⟩
  have hF2 : Fr (fun k => k = kb) w8 (w8.setCell ⟨kb, e, none⟩ (.int .i64 N)) := Fr.setCell (F := fun k => k = kb) (p := ⟨kb, e, none⟩) (Fr.refl _ _) rfl _
  have hF3 : Fr (fun _ => False) (w8.setCell ⟨kb, e, none⟩ (.int .i64 N)) ((w8.setCell ⟨kb, e, none⟩ (.int .i64 N)).alloc (.cells #[.int .i64 e] 3)) := Fr.of_below ((Below.refl _ _).alloc (Nat.le_refl _) _)
  have hF4 := Fr.grown hg
  have hF5 : Fr (fun k => k = c) w10 (w10.setCell ⟨c, 6, none⟩ v10) := Fr.setCell (F := fun k => k = c) (p := ⟨c, 6, none⟩) (Fr.refl _ _) rfl _
  have s1 := hF1.size
  have s2 : (w8.setCell ⟨kb, e, none⟩ (.int .i64 N)).heap.size = w8.heap.size := by simp [World.setCell]
  have s3 := hF3.size
  have s4 := hF4.size
  have s5 : (w10.setCell ⟨c, 6, none⟩ v10).heap.size = w10.heap.size := by simp [World.setCell]
  have hdl : ∀ k, dv.ownBlock = some k → k < w.heap.size := fun k hk => (h.done.lt k hk).2
  have hck := h.ck
  have hfr : Fr (fun k => C k = 5 ∨ C k = 7 ∨ C k = 8 ∨ C k = 1) w (w10.setCell ⟨c, 6, none⟩ v10) := by
    have a1 : Fr (fun k => C k = 5 ∨ C k = 7 ∨ C k = 8 ∨ C k = 1) w w8 := ⟨hF1.os, hF1.tape, hF1.output, hF1.size, fun k hk hn => hF1.block k hk (fun e => hn (.inl e))⟩
    have a2 := a1.trans hF2 (fun x _ ex => by rw [ex]; exact .inr (.inl hck))
    have a3 := a2.trans hF3 (fun x _ ex => ex.elim)
    have a4 := a3.trans hF4 (fun x _ ex => .inr (.inr (.inl (h.cd x ex))))
    exact a4.trans hF5 (fun x _ ex => by rw [ex]; exact .inr (.inr (.inr hcc)))
  have hG3 : ∀ k, G3 = some k → k < w8.heap.size := fun k hk => (hH.1.glt k hk).1
  have hvl : ∀ k, v10.ownBlock = some k → k < w10.heap.size := fun k hk => (ho.lt k hk).2
  have hdif : ∀ k, G3 = some k → v10.ownBlock = some k → False := by
    intro k a1 a2
    have b1 := hG3 k a1
    rcases hv k a2 with b2' | b2'
    · rcases hG k a1 with b3 | b3
      · have := h.cg2 k b3; have := h.cd k b2'; omega
      · have := hdl k b2'; omega
    · omega
  refine ⟨fun k => if G3 = some k then 5 else if v10.ownBlock = some k then 8 else C k, h.more he hn hq hfr ?_ ?_ ?_ ?_ ⟨ks, k1, ?_, k2, k3⟩ ?_ ?_ ?_ ?_, ⟨hfr.os, hfr.tape, hfr.output, hfr.size, fun k hk hn => hfr.block k hk (fun e => hn (by omega))⟩, ?_⟩
  · intro k hk
    show (if G3 = some k then 5 else if v10.ownBlock = some k then 8 else C k) = C k
    split
    · rename_i e1
      rcases hG k e1 with e2 | e2
      · exact (h.cg2 k e2).symm
      · omega
    · split
      · rename_i e1
        rcases hv k e1 with e2 | e2
        · exact (h.cd k e2).symm
        · omega
      · rfl
  · intro k hk
    show (if G3 = some k then 5 else if v10.ownBlock = some k then 8 else C k) = 0
    rw [if_neg (fun e => by have := hG3 k e; omega), if_neg (fun e => by have := hvl k e; omega)]
    exact h.memo.1.fresh k (by omega)
  · have a1 : w10.heap[c]? = w.heap[c]? := by
      have n1 : ¬ (fun k => k = kb) c := fun e => by rw [e, hck] at hcc; cases hcc
      have n2 : ¬ (fun k => dv.ownBlock = some k) c := fun e => by have := h.cd c e; omega
      rw [hF4.block c (by omega) n2, hF3.block c (by omega) (fun e => e), hF2.block c (by omega) n1, hF1.block c l2 (fun e => by omega)]
    have a2 := heap_setCell_same w10 c 6 _ 61 v10 (a1.trans h.cell)
    exact a2
  · have hc5 : C c ≠ 5 := by omega
    have n2 : ∀ k, own b2 G3 k → ¬ dv.ownBlock = some k := by
      rintro k (rfl | hk) e
      · have := h.cd _ e; have := h.c2; omega
      · rcases hG k hk with e2 | e2
        · have := h.cd _ e; have := h.cg2 k e2; omega
        · have := hdl _ e; omega
    have n1 : ∀ k, own b2 G3 k → k ≠ kb := by
      rintro k (rfl | hk) e
      · have := h.c2; rw [e] at this; omega
      · rcases hG k hk with e2 | e2
        · have := h.cg2 k e2; rw [e] at this; omega
        · have := k1.lt; omega
    have n3 : ∀ k, own b2 G3 k → k ≠ c := by
      rintro k (rfl | hk) e
      · have := h.c2; rw [e] at this; omega
      · rcases hG k hk with e2 | e2
        · have := h.cg2 k e2; rw [e] at this; omega
        · omega
    have x1 := hH.fr hF2 (fun e => n1 _ (.inl rfl) e) (fun k hk e => n1 k (.inr hk) e)
    have x2 := x1.fr hF3 (fun e => e) (fun k hk e => e)
    have x3 := x2.fr hF4 (fun e => n2 _ (.inl rfl) e) (fun k hk e => n2 k (.inr hk) e)
    exact x3.fr hF5 (fun e => n3 _ (.inl rfl) e) (fun k hk e => n3 k (.inr hk) e)
  · have x0 : IRw w8 kb ks := k1.fr' hF1 (fun e => by omega)
    have x1 := x0.put e N
    have x2 := x1.fr' hF3 (fun e => e)
    have x3 := x2.fr' hF4 (fun e => by have := h.cd _ e; omega)
    have x4 := x3.fr' hF5 (fun e => by rw [e] at hck; omega)
    rw [hN] at x4
    exact x4
  · exact own_fr ho hF5 (fun k hk e => by
      subst e
      rcases hv k hk with e2 | e2
      · have := h.cd _ e2; omega
      · omega)
  · intro k hk
    show (if G3 = some k then 5 else if v10.ownBlock = some k then 8 else C k) = 5
    rw [if_pos hk]
  · intro k hk
    show (if G3 = some k then 5 else if v10.ownBlock = some k then 8 else C k) = 8
    rw [if_neg (fun e => hdif k e hk), if_pos hk]
  · intro k hk _; omega
  · intro k hk
    show (if G3 = some k then 5 else if v10.ownBlock = some k then 8 else C k) = C k
    split
    · rename_i e1
      rcases hG k e1 with e2 | e2
      · exact (h.cg2 k e2).symm
      · omega
    · split
      · rename_i e1
        rcases hv k e1 with e2 | e2
        · exact (h.cd k e2).symm
        · omega
      · rfl
end Go.Proofs.Ytkekekdkfjjifaa
