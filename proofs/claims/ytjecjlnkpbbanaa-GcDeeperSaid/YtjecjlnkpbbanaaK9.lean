/- A copier in memory: one more copy. -/
import Derived.Test.YtjecjlnkpbbanaaK8
namespace Go.Proofs.Ytjecjlnkpbbanaa
open Go Go.RowKit
set_option linter.unusedVariables false
set_option linter.unusedSimpArgs false
theorem Fr.grown {w w' : World} {r : Option Nat} (hg : w.grownBy w' r) : Fr (fun k => r = some k) w w' := ⟨hg.os, hg.tape, hg.output, hg.size, fun k hk hn => hg.block k hk (fun e => hn e.symm)⟩
theorem Cop.copy {B : Nat} {w w8 w10 : World} {C : Nat → Nat} {c b : Nat} {G : Option Nat} {os : List Ob} {m dp eb pb : Nat} {pk : List (Option Nat)} {b2 : Nat} {G2 G3 : Option Nat} {kb : Nat} {dv v10 : Value} {D : List Int} {Q : List (List Int)} (h : Cop B w C c b G os m dp eb pb pk b2 G2 kb dv D Q)
    {e N : Nat} (he : Vd os e) (hn : (e : Int) ∉ D) {q : List Int} (hq : q.length = (ptrsOf os e).length) (hN : N = total (cps os D Q))
    (hH : HpO w8 b2 G3 (cps os D Q ++ [newO (hdo os e).t q (numsOf os e)]) m) (hF : Fr (own b2 G2) w w8) (hG : ∀ k, G3 = some k → G2 = some k ∨ w.heap.size ≤ k)
    (ho : w10.ownsRow B 3 1 v10 (D.length + 1) (D.map (Value.int .i64) ++ [.int .i64 e])) (hg : ((w8.setCell ⟨kb, e, none⟩ (.int .i64 N)).alloc (.cells #[.int .i64 e] 3)).grownBy w10 dv.ownBlock)
    (hv : ∀ k, v10.ownBlock = some k → dv.ownBlock = some k ∨ ((w8.setCell ⟨kb, e, none⟩ (.int .i64 N)).alloc (.cells #[.int .i64 e] 3)).heap.size ≤ k) :
    ∃ C', Cop B (w10.setCell ⟨c, 6, none⟩ v10) C' c b G os m dp eb pb pk b2 G3 kb v10 (D ++ [(e : Int)]) (Q ++ [q]) ∧ Cst C w C' (w10.setCell ⟨c, 6, none⟩ v10) := by
  obtain ⟨ks, k1, k2, k3⟩ := h.k
  obtain ⟨l1, l2⟩ := h.low'
  have hcc := h.memo.1.cc
  have hown : ∀ k, own b2 G2 k → C k = 5 := by
    rintro k (rfl | hk)
    · exact h.c2
    · exact h.cg2 k hk
  have hF1 : Fr (fun k => C k = 5) w w8 := ⟨hF.os, hF.tape, hF.output, hF.size, fun k hk hn => hF.block k hk (fun e => hn (hown k e))⟩
  have hF2 : Fr (fun k => k = kb) w8 (w8.setCell ⟨kb, e, none⟩ (.int .i64 N)) := Fr.setCell (F := fun k => k = kb) (p := ⟨kb, e, none⟩) (Fr.refl _ _) rfl _
  have hF3 : Fr (fun _ => False) (w8.setCell ⟨kb, e, none⟩ (.int .i64 N)) ((w8.setCell ⟨kb, e, none⟩ (.int .i64 N)).alloc (.cells #[.int .i64 e] 3)) := Fr.of_below ((Below.refl _ _).alloc (Nat.le_refl _) _)
  have hF4 := Fr.grown hg
  have hF5 : Fr (fun k => k = c) w10 (w10.setCell ⟨c, 6, none⟩ v10) := Fr.setCell (F := fun k => k = c) (p := ⟨c, 6, none⟩) (Fr.refl _ _) rfl _
  have s1 := hF1.size
  have s2 : (w8.setCell ⟨kb, e, none⟩ (.int .i64 N)).heap.size = w8.heap.size := by simp [World.setCell]
  have s3 := hF3.size
  have s4 := hF4.size
  have s5 : (w10.setCell ⟨c, 6, none⟩ v10).heap.size = w10.heap.size := by simp [World.setCell]
  have hdl : ∀ k, dv.ownBlock = some k → k < w.heap.size := fun k hk => (h.done.lt k hk).2
  have hck := h.ck
  have hfr : Fr (fun k => C k = 5 ∨ C k = 7 ∨ C k = 8 ∨ C k = 1) w (w10.setCell ⟨c, 6, none⟩ v10) := by
    have a1 : Fr (fun k => C k = 5 ∨ C k = 7 ∨ C k = 8 ∨ C k = 1) w w8 := ⟨hF1.os, hF1.tape, hF1.output, hF1.size, fun k hk hn => hF1.block k hk (fun e => hn (.inl e))⟩
    have a2 := a1.trans hF2 (fun x _ ex => by rw [ex]; exact .inr (.inl hck))
    have a3 := a2.trans hF3 (fun x _ ex => ex.elim)
    have a4 := a3.trans hF4 (fun x _ ex => .inr (.inr (.inl (h.cd x ex))))
    exact a4.trans hF5 (fun x _ ex => by rw [ex]; exact .inr (.inr (.inr hcc)))
  have hG3 : ∀ k, G3 = some k → k < w8.heap.size := fun k hk => (hH.1.glt k hk).1
  have hvl : ∀ k, v10.ownBlock = some k → k < w10.heap.size := fun k hk => (ho.lt k hk).2
  have hdif : ∀ k, G3 = some k → v10.ownBlock = some k → False := by
    intro k a1 a2
    have b1 := hG3 k a1
    rcases hv k a2 with b2' | b2'
    · rcases hG k a1 with b3 | b3
      · have := h.cg2 k b3; have := h.cd k b2'; omega
      · have := hdl k b2'; omega
    · omega
  refine ⟨fun k => if G3 = some k then 5 else if v10.ownBlock = some k then 8 else C k, h.more he hn hq hfr ?_ ?_ ?_ ?_ ⟨ks, k1, ?_, k2, k3⟩ ?_ ?_ ?_ ?_, ⟨hfr.os, hfr.tape, hfr.output, hfr.size, fun k hk hn => hfr.block k hk (fun e => hn (by omega))⟩, ?_⟩
  · intro k hk
    show (if G3 = some k then 5 else if v10.ownBlock = some k then 8 else C k) = C k
    split
    · rename_i e1
      rcases hG k e1 with e2 | e2
      · exact (h.cg2 k e2).symm
      · omega
    · split
      · rename_i e1
        rcases hv k e1 with e2 | e2
        · exact (h.cd k e2).symm
        · omega
      · rfl
  · intro k hk
    show (if G3 = some k then 5 else if v10.ownBlock = some k then 8 else C k) = 0
    rw [if_neg (fun e => by have := hG3 k e; omega), if_neg (fun e => by have := hvl k e; omega)]
    exact h.memo.1.fresh k (by omega)
  · have a1 : w10.heap[c]? = w.heap[c]? := by
      have n1 : ¬ (fun k => k = kb) c := fun e => by rw [e, hck] at hcc; cases hcc
      have n2 : ¬ (fun k => dv.ownBlock = some k) c := fun e => by have := h.cd c e; omega
      rw [hF4.block c (by omega) n2, hF3.block c (by omega) (fun e => e), hF2.block c (by omega) n1, hF1.block c l2 (fun e => by omega)]
    have a2 := heap_setCell_same w10 c 6 _ 61 v10 (a1.trans h.cell)
    exact a2
  · have hc5 : C c ≠ 5 := by omega
    have n2 : ∀ k, own b2 G3 k → ¬ dv.ownBlock = some k := by
      rintro k (rfl | hk) e
      · have := h.cd _ e; have := h.c2; omega
      · rcases hG k hk with e2 | e2
        · have := h.cd _ e; have := h.cg2 k e2; omega
        · have := hdl _ e; omega
    have n1 : ∀ k, own b2 G3 k → k ≠ kb := by
      rintro k (rfl | hk) e
      · have := h.c2; rw [e] at this; omega
      · rcases hG k hk with e2 | e2
        · have := h.cg2 k e2; rw [e] at this; omega
        · have := k1.lt; omega
    have n3 : ∀ k, own b2 G3 k → k ≠ c := by
      rintro k (rfl | hk) e
      · have := h.c2; rw [e] at this; omega
      · rcases hG k hk with e2 | e2
        · have := h.cg2 k e2; rw [e] at this; omega
        · omega
    have x1 := hH.fr hF2 (fun e => n1 _ (.inl rfl) e) (fun k hk e => n1 k (.inr hk) e)
    have x2 := x1.fr hF3 (fun e => e) (fun k hk e => e)
    have x3 := x2.fr hF4 (fun e => n2 _ (.inl rfl) e) (fun k hk e => n2 k (.inr hk) e)
    exact x3.fr hF5 (fun e => n3 _ (.inl rfl) e) (fun k hk e => n3 k (.inr hk) e)
  · have x0 : IRw w8 kb ks := k1.fr' hF1 (fun e => by omega)
    have x1 := x0.put e N
    have x2 := x1.fr' hF3 (fun e => e)
    have x3 := x2.fr' hF4 (fun e => by have := h.cd _ e; omega)
    have x4 := x3.fr' hF5 (fun e => by rw [e] at hck; omega)
    rw [hN] at x4
    exact x4
  · exact own_fr ho hF5 (fun k hk e => by
      subst e
      rcases hv k hk with e2 | e2
      · have := h.cd _ e2; omega
      · omega)
  · intro k hk
    show (if G3 = some k then 5 else if v10.ownBlock = some k then 8 else C k) = 5
    rw [if_pos hk]
  · intro k hk
    show (if G3 = some k then 5 else if v10.ownBlock = some k then 8 else C k) = 8
    rw [if_neg (fun e => hdif k e hk), if_pos hk]
  · intro k hk _; omega
  · intro k hk
    show (if G3 = some k then 5 else if v10.ownBlock = some k then 8 else C k) = C k
    split
    · rename_i e1
      rcases hG k e1 with e2 | e2
      · exact (h.cg2 k e2).symm
      · omega
    · split
      · rename_i e1
        rcases hv k e1 with e2 | e2
        · exact (h.cd k e2).symm
        · omega
      · rfl
end Go.Proofs.Ytjecjlnkpbbanaa
