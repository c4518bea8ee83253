/- Term, of none or one. -/
import Derived.Test.YtmcgocbkjdacaaaDoorTM0
namespace Go.Proofs.YtmcgocbkjdacaaaDoor
open Go.RowKit Go.BigM
set_option linter.unusedVariables false
set_option linter.unusedSimpArgs false
theorem But2.cell {B g h : Nat} {w w' : World} (k : But2 B g h w w') {p : Addr} (hp : p.block < B) (hg : p.block ≠ g) (hh : p.block ≠ h) : w'.cell? p = w.cell? p := World.cell?_of_block (w := w) (k.block p.block hp hg hh)
theorem Below.setRowUp {B : Nat} {a w : World} (h : Below B a w) (x : Nat) (cs : Array Value) (hx : B ≤ x) : Below B a (w.setRow x cs) :=
  h.trans ⟨rfl, rfl, rfl, by simp, fun k hk => setRow_other w x k cs (by omega)⟩
theorem But.toBelow {B B' g : Nat} {w w' : World} (h : But B g w w') (hB : B' ≤ B) (hg : B' ≤ g) : Below B' w w' := ⟨h.os, h.tape, h.output, h.size, fun k hk => h.block k (by omega) (by omega)⟩
theorem term_exit {g c s : Nat} {w W w5 : World} {e : Ending} (h : RetMade [] g 0 c s W e w5) (hb : Below w.heap.size w W) (hg : w.heap.size < g) (hx : w.heap.size < W.heap.size) (hz : W.heap[w.heap.size]? = some (.cells Z4 28 (0, 0))) (hc : c ≤ 99) (hs : s ≤ 400) :
    ∃ k t nv av, e = .returned (.agg #[.int .i64 k, .string t, nv, av]) ∧ w5.heap[w.heap.size]? = some (.cells Z4 28 (0, 0)) ∧ (#[.int .i64 k, .string t, nv, av] : Array Value).all (·.oneCell') = true ∧
      RetTerm w (.returned (.agg #[.int .i64 k, .string t, nv, av])) (w5.setRow w.heap.size #[.int .i64 k, .string t, nv, av]) := by
  obtain ⟨cs, t, m', rfl, hat, hM, hsz, hm', hmk, hbut⟩ := h
  obtain ⟨k, tx, nv, av, rfl, o1, o2⟩ := EAt_form hat
  have hs1 := hb.size
  refine ⟨k, tx, nv, av, rfl, ?_, by simp [Value.oneCell'] at o1 o2 ⊢; exact ⟨o1, o2⟩, _, t, m', rfl, ?_, hM, by omega, by omega, ?_⟩
  · rw [hbut.block _ hx (by omega)]; exact hz
  · refine Et.At.mono (fun x hx => by have : W.heap.size ≤ x := hx; omega) _ _ (Et.At.keeps ?_ _ _ hat)
    intro x cs2 T fz hx2 hxx _
    have : W.heap.size ≤ x := hx2
    exact ⟨fz, by rw [setRow_other w5 _ x _ (by omega)]; exact hxx⟩
  · exact Below.setRowUp (hb.trans (hbut.toBelow (by omega) (by omega))) _ _ (Nat.le_refl _)
/-- The term is laid in the result's block. -/
theorem term_exit2 {ns : List ByteArray} {m' : Nat} {w wr : World} {kk : Int} {tt : ByteArray} {nv av : Value} {l : List Et}
    (hnv : NAt (fun x => w.heap.size < x) wr nv ns) (hav : AAt (fun x => w.heap.size < x) wr av l) (hM : Made [] 0 m' (.mk kk tt ns l)) (hs : 1 + Et.sizes l ≤ 400) (hc : m' ≤ 99) (hb : Below w.heap.size w wr) :
    (#[.int .i64 kk, .string tt, nv, av] : Array Value).all (·.oneCell') = true ∧ RetTerm w (.returned (.agg #[.int .i64 kk, .string tt, nv, av])) (wr.setRow w.heap.size #[.int .i64 kk, .string tt, nv, av]) := by
  have o1 := hnv.one
  have o2 := hav.one
  refine ⟨by simp [Value.oneCell'] at o1 o2 ⊢; exact ⟨o1, o2⟩, _, _, m', rfl, ?_, hM, by simpa [Et.size] using hs, hc, Below.setRowUp hb _ _ (Nat.le_refl _)⟩
  have hat : Et.At (fun x => w.heap.size < x) wr (.mk kk tt ns l) #[.int .i64 kk, .string tt, nv, av] := by rw [EAt_mk]; exact ⟨_, _, rfl, hnv, hav⟩
  refine Et.At.mono (fun x hx => by have : w.heap.size < x := hx; omega) _ _ (Et.At.keeps ?_ _ _ hat)
  intro x cs2 T fz hx2 hxx _
  have : w.heap.size < x := hx2
  exact ⟨fz, by rw [setRow_other wr _ x _ (by omega)]; exact hxx⟩
set_option maxHeartbeats 4000000 in
set_option maxRecDepth 100000 in
theorem term_none (ao : Option Addr) (cap : Nat) (w : World) : Calls Tryd.prog 12 #[.slice ao 0 cap] w (RetTerm w) := by
  have hz : ((w.alloc (.cells Z4 28)).alloc (.cells #[.int .i64 0] 50)).heap[w.heap.size]? = some (.cells Z4 28 (0, 0)) := (Lib.alloc_old _ _ _ (by simp)).trans (alloc_at w _)
  have hb : Below w.heap.size w ((w.alloc (.cells Z4 28)).alloc (.cells #[.int .i64 0] 50)) := ((Below.refl w.heap.size w).alloc (Nat.le_refl _) _).alloc (by simp) _
  have hM : Made [] 0 0 (.mk 1 ⟨#[53]⟩ [] []) := Made.leaf (by decide) (by decide) (by decide)
  obtain ⟨hone, hfin⟩ := term_exit2 (w := w) (nv := .slice none 0 0) (av := .slice none 0 0) (.inl ⟨rfl, rfl⟩) (.inl ⟨rfl, rfl⟩) hM (by simp [Et.sizes]) (by decide) hb
  have HZ := Lib.hid hz
  have HF := Lib.hid hfin
  clear hz hb hM hfin
  go_enter Tryd.func12, Tryd.ntmps12
  go_wp2_with (refine wpList_store_row rfl 28 _ _ rfl w.heap.size #[.int .i64 1, .string ⟨#[53]⟩, .slice none 0 0, .slice none 0 0] rfl rfl 28 Z4 HZ.out info28 rfl hone ?_)
  refine bodyPost_ret (results_cell_row rfl _ _ w.heap.size 28 #[.int .i64 1, .string ⟨#[53]⟩, .slice none 0 0, .slice none 0 0] (0, 0) _ rfl (setRow_heap _ _ _ _ 28 _ HZ.out) Tryd.underlying28 rfl info28) rfl ?_
  exact HF.out
set_option maxHeartbeats 4000000 in
set_option maxRecDepth 100000 in
theorem term_one (hmake : ∀ r : Rw, MkC r) (k n : Int) (pl : List Rw) (ao : Option Addr) (cap : Nat) (w : World) (hR : RsAt w ao [.mk k n pl]) (hc : Rw.cnts [.mk k n pl] ≤ 40) : Calls Tryd.prog 12 #[.slice ao 1 cap] w (RetTerm w) := by
  obtain ⟨b, k', n', po, pl', pc, rfl, he, c0, c1, c2, i1, i2, hpl⟩ := hR.get 0 (by simp)
  have he2 : Rw.mk k n pl = Rw.mk k' n' pl' := he
  injection he2 with e1 e2 e3
  subst e1 e2 e3
  have hz : ((w.alloc (.cells Z4 28)).alloc (.cells #[.int .i64 0] 50)).heap[w.heap.size]? = some (.cells Z4 28 (0, 0)) := (Lib.alloc_old _ _ _ (by simp)).trans (alloc_at w _)
  have hb : Below w.heap.size w ((w.alloc (.cells Z4 28)).alloc (.cells #[.int .i64 0] 50)) := ((Below.refl w.heap.size w).alloc (Nat.le_refl _) _).alloc (by simp) _
  have hmk : Mk ((w.alloc (.cells Z4 28)).alloc (.cells #[.int .i64 0] 50)) (w.heap.size + 1) 0 := by
    have h := alloc_at (w.alloc (.cells Z4 28)) (.cells #[.int .i64 0] 50)
    have e : (w.alloc (.cells Z4 28)).heap.size = w.heap.size + 1 := by simp
    rw [e] at h; exact h
  have hs : ((w.alloc (.cells Z4 28)).alloc (.cells #[.int .i64 0] 50)).heap.size = w.heap.size + 2 := by simp
  have hcn : (Rw.mk k n pl).cnt ≤ 40 := by simp only [Rw.cnts] at hc; omega
  have HP : Hid (Pre w ((w.alloc (.cells Z4 28)).alloc (.cells #[.int .i64 0] 50)) (w.heap.size + 1) 0 [] (.slice none 0 0)) := ⟨hb, by omega, hmk, .inl ⟨rfl, rfl⟩, (fun s hs => by simp at hs), by simp⟩
  have HM := Lib.hid (hmake (.mk k n pl) w _ _ _ _ _ HP.out (by omega) po pc hpl i1 i2)
  simp only [Rw.num, Rw.at_, Rw.parts] at HM
  have ea : b.add (0 * 3) = b := by simp [Addr.add]
  rw [ea] at c0 c1 c2
  have d0 := cell_below hb c0
  have d1 := cell_below hb c1
  have d2 := cell_below hb c2
  have HZ := Lib.hid hz
  have HB := Lib.hid hb
  have hx : w.heap.size < ((w.alloc (.cells Z4 28)).alloc (.cells #[.int .i64 0] 50)).heap.size := by omega
  clear ea hz hb hmk hs c0 c1 c2 hR he hc i1 i2 hpl hmake HP
  go_enter Tryd.func12, Tryd.ntmps12
  go_wp2_with fail
  refine HM.out.mono ?_
  intro e w5 hret
  obtain ⟨k5, t5, nv5, av5, rfl, hz5, hone, hfin⟩ := term_exit hret HB.out (by omega) hx HZ.out (by omega) (by omega)
  have HZ5 := Lib.hid hz5
  have HF := Lib.hid hfin
  clear hret hz5 hfin HM
  go_wp2_with (refine wpList_store_row rfl 28 _ _ rfl w.heap.size #[.int .i64 k5, .string t5, nv5, av5] rfl rfl 28 Z4 HZ5.out info28 rfl hone ?_)
  refine bodyPost_ret (results_cell_row rfl _ _ w.heap.size 28 #[.int .i64 k5, .string t5, nv5, av5] (0, 0) _ rfl (setRow_heap w5 _ _ _ 28 _ HZ5.out) Tryd.underlying28 rfl info28) rfl ?_
  exact HF.out
theorem But2.toBelow {B B' g h : Nat} {w w' : World} (k : But2 B g h w w') (hB : B' ≤ B) (hg : B' ≤ g) (hh : B' ≤ h) : Below B' w w' := ⟨k.os, k.tape, k.output, k.size, fun x hx => k.block x (by omega) (by omega) (by omega)⟩
theorem OwnN.but2t {B g h : Nat} {w w' : World} {v : Value} {ns : List ByteArray} (hn : OwnN B w v ns) (hb : But2 w.heap.size g h w w') (hg : g < B) (hh : h < B) : OwnN B w' v ns := by
  refine ⟨hn.1, ?_⟩
  rcases hn.2 with h1 | ⟨g1, cap, cur, e1, hB, h2, r⟩
  · exact .inl h1
  · exact .inr ⟨g1, cap, cur, e1, hB, by rw [hb.block _ (Array.getElem?_eq_some_iff.1 h2).1 (by omega) (by omega)]; exact h2, r⟩
theorem term_last {W0 W1 wf w : World} {g ge Q m0 j : Nat} {l : List Rw} {no : Option Addr} {nc : Nat} (h : LA W1 g ge Q m0 (ord l Q) (nms 0 m0) 9 ⟨#[]⟩ (.slice no m0 nc) (.int .i64 ((j : Int) + 1)) wf) (hjQ : j + 1 = Q) (hmQ : m0 + 1 = Q) (hQ5 : Q ≤ 5) (hQ2 : 2 ≤ Q) (hc : Rw.cnts l ≤ 40)
    (hn : OwnN W0.heap.size W1 (.slice no m0 nc) (nms 0 m0)) (hz : W1.heap[w.heap.size]? = some (.cells Z4 28 (0, 0))) (hbb : Below w.heap.size w W1) (hg : w.heap.size < g) (hge : w.heap.size < ge) (hgb : g < W0.heap.size) (hgeb : ge < W0.heap.size) (hW0 : w.heap.size < W0.heap.size) (hW01 : W0.heap.size ≤ W1.heap.size) :
    ∃ av, EB wf ge 9 ⟨#[]⟩ (.slice no m0 nc) av ∧ wf.heap[w.heap.size]? = some (.cells Z4 28 (0, 0)) ∧ (#[.int .i64 9, .string ⟨#[]⟩, .slice no m0 nc, av] : Array Value).all (·.oneCell') = true ∧
      RetTerm w (.returned (.agg #[.int .i64 9, .string ⟨#[]⟩, .slice no m0 nc, av])) (wf.setRow w.heap.size #[.int .i64 9, .string ⟨#[]⟩, .slice no m0 nc, av]) := by
  obtain ⟨i, m', l9, av, hi, hiv, hown, heb, hM, hmk, hl, hsz, hmm, hbut⟩ := h
  obtain rfl : i = Q := by injection hiv with _ h; omega
  have hn9 := hn.but2t hbut hgb hgeb
  have hcl := cnts_take_le (ord l i) i
  have hoc := ord_cnts l i
  have hMM : Made [] 0 m' (.mk 9 ⟨#[]⟩ (nms 0 m0) l9) := MadeL.node (sc := []) (ns := nms 0 m0) (b := m0) hM (by omega) rfl (by omega) (by rw [nms_len]; omega) (by decide) (by decide) (by
    have ho := nms_once 0 m0
    have hln := nms_len 0 m0
    simp [shapeB, textB, namesB, partsB, Lib.toList_data, ho, hln, hl]
    omega)
  obtain ⟨hone, hfin⟩ := term_exit2 (w := w) (hn9.at.mono (fun x hx => by have : W0.heap.size ≤ x := hx.1; show w.heap.size < x; omega)) (hown.at.mono (fun x hx => by have : W1.heap.size ≤ x := hx; show w.heap.size < x; omega)) hMM (by omega) (by omega) (hbb.trans (hbut.toBelow (by omega) (by omega) (by omega)))
  exact ⟨av, heb, (hbut.block _ (by omega) (by omega) (by omega)).trans hz, hone, hfin⟩
end Go.Proofs.YtmcgocbkjdacaaaDoor
