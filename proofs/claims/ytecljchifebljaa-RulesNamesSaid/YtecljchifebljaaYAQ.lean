/- Rules: what a symbol of a pattern is. -/
import Derived.Test.YtecljchifebljaaYAN
import Derived.Test.YtecljchifebljaaYAB
import Derived.Test.YtecljchifebljaaYAM
import Derived.Test.YtecljchifebljaaYAA
set_option linter.unusedVariables false
set_option linter.unusedSimpArgs false
namespace Go.Proofs.Ytecljchifebljaa
open Go Go.RowKit
open Go.Maps
open Go.WideMaps (keyOf_string_mk)
set_option maxHeartbeats 8000000 in
set_option maxRecDepth 100000 in
theorem role_any {S : Nat → Prop} {w : World} {d : Dt} {cs : Array Value} (hd : Dt.At S w d cs) (hwf : d.text.size ≤ 1000000) (b : Nat) (ls : List ByteArray) (hw : WordsAt w b ls) :
  Calls Try.prog 70 #[.agg #[.map (some b)], .agg cs] w (RetInt (roleOf ls d) w) := by
 have FD := Lib.hid (fun W => isdots_any hd W)
 obtain ⟨mv, lv, rfl, h1, h2⟩ := At_five hd
 obtain ⟨k, hk⟩ : ∃ k, k = d.kind := ⟨_, rfl⟩
 obtain ⟨t, ht⟩ : ∃ t, t = d.text := ⟨_, rfl⟩
 obtain ⟨p, hp⟩ : ∃ p, p = d.place := ⟨_, rfl⟩
 obtain ⟨bd, hbd⟩ : ∃ b, b = d.dots := ⟨_, rfl⟩
 obtain ⟨bi, hbi⟩ : ∃ b, b = inL ls d.text := ⟨_, rfl⟩
 obtain ⟨bu, hbu⟩ : ∃ b, b = (t.toList == [95]) := ⟨_, rfl⟩
 have HR : Hid (roleOf ls d = if k ≠ 3 then 0 else if bd = true then 1 else if bi = true then 2 else if bu = true then 3 else 4) := by
  show _ = _
  unfold roleOf
  rw [hk, hbd, hbi, hbu, ht]
 rw [← hbd, ← hk, ← ht, ← hp] at FD
 rw [← ht] at hwf
 obtain ⟨m, hown⟩ := hw
 have hkey : keyOf Try.prog 9 (.string t) = some (litS t) := keyOf_string_mk Try.underlying9 (Nat.le_trans hwf (by decide))
 have hhas : Maps.has (wset ls) (litS t) = bi := by rw [wset_has, hbi, ht]
 have HHAS := Lib.hid hhas
 have HOWN := Lib.hid hown
 rw [← hk, ← ht, ← hp]
 have qu : (t.toList == [95]) = bu := hbu.symm
 clear hbd hk ht hp hbi hown hd hbu
 have hb0 : Below w.heap.size w ((w.alloc (.cells #[.map (some b)] 82)).alloc (.cells #[.int .i64 k, .string t, mv, lv, .int .i64 p] 29)) := ((Below.refl _ _).alloc (Nat.le_refl _) _).alloc (by simp) _
 have HB0 := Lib.hid hb0
 by_cases h3 : k = 3
 ·subst h3
  obtain ⟨X, hX⟩ : ∃ X, X = (w.alloc (.cells #[.map (some b)] 82)).alloc (.cells #[.int .i64 3, .string t, mv, lv, .int .i64 p] 29) := ⟨_, rfl⟩
  have FX := Lib.hid (FD.out X)
  have hx1 : X.heap[w.heap.size]? = some (Obj.cells #[.map (some b)] 82 (0, 0)) := by rw [hX]; exact (Lib.alloc_old _ _ _ (by simp)).trans (alloc_at _ _)
  have hx2 : X.heap[w.heap.size + 1]? = some (Obj.cells #[.int .i64 3, .string t, mv, lv, .int .i64 p] 29 (0, 0)) := by rw [hX]; exact second2 w _ _
  rw [← hX] at hb0 HB0
  have hs0 : X.heap.size = w.heap.size + 2 := by rw [hX]; simp
  have HX1 := Lib.hid hx1
  have HX2 := Lib.hid hx2
  have HX := Lib.hid hX
  clear hX hx1 hx2 FD
  go_enter Try.func70, Try.ntmps70
  go_upto_region 3 with fail
  rw [← HX.out]
  have y0 : X.cell? ⟨w.heap.size + 1, 0, none⟩ = some (.int .i64 3) := by rw [Lib.cell_of_heap HX2.out]; rfl
  have y1 : X.cell? ⟨w.heap.size + 1, 1, none⟩ = some (.string t) := by rw [Lib.cell_of_heap HX2.out]; rfl
  have y2 : X.cell? ⟨w.heap.size + 1, 2, none⟩ = some mv := by rw [Lib.cell_of_heap HX2.out]; rfl
  have y3 : X.cell? ⟨w.heap.size + 1, 3, none⟩ = some lv := by rw [Lib.cell_of_heap HX2.out]; rfl
  have y4 : X.cell? ⟨w.heap.size + 1, 4, none⟩ = some (.int .i64 p) := by rw [Lib.cell_of_heap HX2.out]; rfl
  go_wp2_with fail
  refine FX.out.mono ?_
  rintro e w3 ⟨rfl, hb3⟩
  have HB3 := Lib.hid (HB0.out.trans (hb3.mono HB0.out.size))
  clear y0 y1 y2 y3 y4 FX
  cases bd with
  | true =>
   go_wp2_with fail
   go_ret
   exact ⟨by rw [HR.out]; rfl, HB3.out⟩
  | false =>
   have z1 : w3.heap[w.heap.size]? = some (Obj.cells #[.map (some b)] 82 (0, 0)) := (hb3.block _ (by omega)).trans HX1.out
   have z2 : w3.heap[w.heap.size + 1]? = some (Obj.cells #[.int .i64 3, .string t, mv, lv, .int .i64 p] 29 (0, 0)) := (hb3.block _ (by omega)).trans HX2.out
   have c0 : w3.cell? ⟨w.heap.size, 0, none⟩ = some (.map (some b)) := by rw [Lib.cell_of_heap z1]; rfl
   have c1 : w3.cell? ⟨w.heap.size + 1, 1, none⟩ = some (.string t) := by rw [Lib.cell_of_heap z2]; rfl
   have hbl := HOWN.out.lt
   have hown3 := ownsMap_block HOWN.out ((hb3.block b (by omega)).trans (hb0.block b hbl))
   have HO3 := Lib.hid hown3
   have HZ2 := Lib.hid z2
   clear z1 z2 hb3 hown3 hb0
   go_upto_region 6 with (first | (at_lookup; refine wpList_lookup_own_unit _ rfl _ _ 80 rfl 9 122 law9 Try.underlying80 (zero122 _) b m _ rfl HO3.out _ _ rfl hkey ?_; rw [HHAS.out]) | go_in)
   have hbA : Below w3.heap.size w3 (w3.alloc (.cells #[] 122)) := (Below.refl _ _).alloc (Nat.le_refl _) _
   cases bi with
   | true =>
    go_wp2_with fail
    go_ret
    exact ⟨by rw [HR.out]; rfl, HB3.out.trans (hbA.mono HB3.out.size)⟩
   | false =>
    have hs3 := HB3.out.size
    have u2 : (w3.alloc (.cells #[] 122)).heap[w.heap.size + 1]? = some (Obj.cells #[.int .i64 3, .string t, mv, lv, .int .i64 p] 29 (0, 0)) := (Lib.alloc_old _ _ _ (Array.getElem?_eq_some_iff.1 HZ2.out).1).trans HZ2.out
    have u1 : (w3.alloc (.cells #[] 122)).cell? ⟨w.heap.size + 1, 1, none⟩ = some (.string t) := by rw [Lib.cell_of_heap u2]; rfl
    clear u2 c0 c1
    cases bu with
    | true =>
     go_wp2_with fail
     go_ret
     exact ⟨by rw [HR.out]; rfl, HB3.out.trans (hbA.mono HB3.out.size)⟩
    | false =>
     go_wp2_with fail
     go_ret
     exact ⟨by rw [HR.out]; rfl, HB3.out.trans (hbA.mono HB3.out.size)⟩
 ·have q3 : (k != 3) = true := by rw [bne_iff_ne]; exact h3
  clear FD
  go_enter Try.func70, Try.ntmps70
  go_wp2_with fail
  go_ret
  exact ⟨by rw [HR.out, if_pos h3]; rfl, HB0.out⟩
end Go.Proofs.Ytecljchifebljaa
namespace Go.Proofs.Ytecljchifebljaa
open Go Go.RowKit
theorem CfAt.mono {S T : Nat → Prop} {w : World} {lv : Value} {l : List Dt} {cf : Nat → Array Value} (h : CfAt S w lv l cf) (k : ∀ g, S g → T g) : CfAt T w lv l cf := fun j hj => ⟨Dt.At.mono k _ _ (h j hj).1, fun g o n c e => ⟨k g ((h j hj).2 g o n c e).1, ((h j hj).2 g o n c e).2⟩⟩
theorem vUp_len (V : Dt → Bool) (q : Int) (L : List Dt) : ∀ (l : List Dt) (i k : Nat) (hk : k < (pixF l i).length) (hL : L.drop i = l) (hlt : (pixF l i)[k] < L.length),
  (((pixF l i).take k).flatMap fun j => match L[j]? with | some d => d.vars V (if nxtDots (L.drop (j + 1)) = true then q + 1 else q) | none => []).length + (L[(pixF l i)[k]]).size ≤ Dt.sizes l
 | [], i, k, hk, _, _ => by simp [pixF] at hk
 | d :: r, i, k, hk, hL, hlt => by
  have hi : i < L.length := by
   by_cases h : i < L.length
   ·exact h
   ·rw [List.drop_eq_nil_of_le (by omega)] at hL; cases hL
  have h2 : L[i] = d ∧ L.drop (i + 1) = r := by
   rw [List.drop_eq_getElem_cons hi] at hL
   injection hL with h3 h4; exact ⟨h3, h4⟩
  cases hd : d.dots with
  | true =>
   have e : pixF (d :: r) i = pixF r (i + 1) := by rw [pixF, if_pos hd]
   have ih := vUp_len V q L r (i + 1) k (by rw [← e]; exact hk) h2.2 (by simp only [← e]; exact hlt)
   simp only [e]
   simp only [Dt.sizes]; omega
  | false =>
   have e : pixF (d :: r) i = i :: pixF r (i + 1) := by rw [pixF, if_neg (by rw [hd]; decide)]
   cases k with
   | zero =>
    simp only [e, List.take_zero, List.flatMap_nil, List.length_nil, List.getElem_cons_zero, h2.1, Dt.sizes]; omega
   | succ k =>
    have ih := vUp_len V q L r (i + 1) k (by rw [e] at hk; simpa using hk) h2.2 (by simp only [e, List.getElem_cons_succ] at hlt; exact hlt)
    have hv := vars_len V d (if nxtDots (L.drop (i + 1)) = true then q + 1 else q)
    simp only [e, List.take_succ_cons, List.flatMap_cons, List.getElem_cons_succ, List.length_append, List.getElem?_eq_getElem hi, h2.1, Dt.sizes]
    omega
theorem vUp_le (V : Dt → Bool) (l : List Dt) (q : Int) (k : Nat) (hk : k < (pix l).length) : (vUp V l q k).length + (l[(pix l)[k]]'(pix_lt hk)).size ≤ Dt.sizes l := vUp_len V q l l 0 k hk (by simp) (pix_lt hk)
/-- The cells of the k-th part; whether dots stand behind it. -/
def pc (cf : Nat → Array Value) (l : List Dt) (k : Nat) : Array Value := cf ((pix l)[k]?.getD 0)
def pb (l : List Dt) (k : Nat) : Bool := nxtDots (l.drop ((pix l)[k]?.getD 0 + 1))
theorem partA_pc {cf : Nat → Array Value} {l : List Dt} {k : Nat} (h : k < (pix l).length) : partA cf l k = #[.agg (pc cf l k), .bool (pb l k)] := by
 rw [partA_at cf l k h]; unfold pc pb; rw [List.getElem?_eq_getElem h, Option.getD_some]
theorem OwnPI.turn {S : Nat → Prop} {B : Nat} {w w' : World} {v : Value} {bs : List Bd} {row : Option Nat} (h : OwnPI S B w v bs) (hg : w.grownBy w' row) (hr : ∀ r, row = some r → ∃ o : Obj, w.heap[r]? = some o ∧ o.isCells = false) : OwnPI S B w' v bs := by
 refine h.kept hg ?_ (KeepsB.of_turn hg hr)
 cases hv : v.ownBlock with
 | none => exact .inl rfl
 | some g =>
  refine .inr fun e => ?_
  obtain ⟨o, ho, hc⟩ := hr g e.symm
  obtain ⟨xs, hx, _⟩ := h
  rcases hx.2 with ⟨e1, _⟩ | ⟨g', cap, cur, e1, _, e3, _⟩
  ·rw [e1] at hv; cases hv
  ·rw [e1] at hv
   simp only [Value.ownBlock, Option.some.injEq] at hv
   subst hv
   rw [e3] at ho; cases ho; cases hc
theorem Grw.turn {w w' w'' : World} {v v' : Value} {row : Option Nat} (h : Grw w w' v v') (hg : w'.grownBy w'' row) (hr : ∀ r, row = some r → w.heap.size ≤ r) : Grw w w'' v v' := by
 have s1 := h.1.size
 have s2 := hg.size
 refine ⟨⟨hg.os.trans h.1.os, hg.tape.trans h.1.tape, hg.output.trans h.1.output, by omega, fun k hk hn => ?_⟩, ?_⟩
 ·rw [hg.block k (by omega) (fun e => by have := hr k e.symm; omega), h.1.block k hk hn]
 ·rcases h.2 with h2 | ⟨b, h2, hb, hc⟩
  ·exact .inl h2
  ·exact .inr ⟨b, h2, hb, by omega⟩
theorem cells_turn {w w' : World} {row : Option Nat} {g : Nat} {c : Array Value} {T : TypeId} {fz : Nat × Nat} (h : w.heap[g]? = some (Obj.cells c T fz)) (hg : w.grownBy w' row) (hr : ∀ r, row = some r → ∃ o : Obj, w.heap[r]? = some o ∧ o.isCells = false) : w'.heap[g]? = some (Obj.cells c T fz) := by
 refine (hg.block g (Array.getElem?_eq_some_iff.1 h).1 fun e => ?_).trans h
 obtain ⟨o, ho, hc⟩ := hr g e.symm
 rw [h] at ho; cases ho; cases hc
/-- A step that turns one block, of cells, keeps all that is no cells. -/
theorem keepsFrom_cells {B : Nat} {w w' : World} {row : Option Nat} (hg : w.grownBy w' row) (hr : ∀ r, row = some r → ∃ (c : Array Value) (T : TypeId) (fz : Nat × Nat), w.heap[r]? = some (Obj.cells c T fz)) : KeepsFrom B w w' :=
 ⟨hg.size, fun k o _ hk ho => (hg.block k (Array.getElem?_eq_some_iff.1 hk).1 fun e => by
  obtain ⟨c, T, fz, h⟩ := hr k e.symm
  rw [hk] at h; cases h; cases ho).trans hk⟩
theorem OwnPI.row_cells {S : Nat → Prop} {B : Nat} {w : World} {v : Value} {bs : List Bd} (h : OwnPI S B w v bs) : ∀ r, v.ownBlock = some r → ∃ (c : Array Value) (T : TypeId) (fz : Nat × Nat), w.heap[r]? = some (Obj.cells c T fz) := by
 intro r hv
 obtain ⟨xs, hx, _⟩ := h
 rcases hx.2 with ⟨e1, _⟩ | ⟨g', cap, cur, e1, _, e3, _⟩
 ·rw [e1] at hv; cases hv
 ·rw [e1] at hv
  simp only [Value.ownBlock, Option.some.injEq] at hv
  subst hv
  exact ⟨_, _, _, e3⟩
def VI (B bw : Nat) (ls : List ByteArray) (q : Int) (bs : List Bd) (l : List Dt) (w : World) (v : Value) (bx : Nat) (cx : Array Value) (k : Nat) (W : World) : Prop :=
 ∃ v', W.heap[w.heap.size + 1]? = some (Obj.cells #[v'] 40 (0, 0)) ∧ OwnPI (fun g => g < B) B W v' (bs ++ (vUp (isVar ls) l q k).map vB) ∧ Grw w W v v' ∧ W.heap[w.heap.size]? = some (Obj.cells #[.map (some bw)] 82 (0, 0)) ∧ W.heap[w.heap.size + 1 + 1 + 1]? = some (Obj.cells #[.int .i64 q] 3 (0, 0)) ∧ w.heap.size + 4 ≤ W.heap.size ∧ WordsAt W bw ls ∧ W.heap[bx]? = some (Obj.cells cx 29 (0, 0))
theorem VI.own {B bw : Nat} {ls : List ByteArray} {q : Int} {bs : List Bd} {l : List Dt} {w : World} {v : Value} {bx : Nat} {cx : Array Value} {C : Nat} (hC : w.heap.size + 4 ≤ C) (hbw : bw < w.heap.size) : OwnFrom C (VI B bw ls q bs l w v bx cx) := by
 rintro k X Y row ⟨v', h5, ho, hg, h4, h7, hs, hw, hb⟩ hgr hr
 have hr2 : ∀ r, row = some r → ∃ o : Obj, X.heap[r]? = some o ∧ o.isCells = false := fun r e => (hr r e).2
 exact ⟨v', cells_turn h5 hgr hr2, ho.turn hgr hr2, hg.turn hgr (fun r e => by have := (hr r e).1; omega), cells_turn h4 hgr hr2, cells_turn h7 hgr hr2, by have := hgr.size; omega, hw.turn hgr (fun e => by have := (hr bw e).1; omega), cells_turn hb hgr hr2⟩
def VAx (B9 : Nat) (cf : Nat → Array Value) (l : List Dt) (F : Value → Value → Value → Act) (k : Nat) (a : Act) (W : World) : Prop :=
 ∃ Bx, B9 ≤ Bx ∧ W.heap[Bx]? = some (Obj.cells (pc cf l k) 29 (0, 0)) ∧ a = F (.pointer (some ⟨Bx, 0, none⟩)) (.bool (pb l k)) (.agg (pc cf l k))
theorem VAx.own {B9 C : Nat} {cf : Nat → Array Value} {l : List Dt} {F : Value → Value → Value → Act} (k : Nat) (a : Act) : OwnFrom C (fun (_ : Unit) W => VAx B9 cf l F k a W) := by
 rintro _ X Y row ⟨Bx, hB, hx, ha⟩ hgr hr
 exact ⟨Bx, hB, cells_turn hx hgr (fun r e => (hr r e).2), ha⟩
end Go.Proofs.Ytecljchifebljaa
namespace Go.Proofs.Ytecljchifebljaa
open Go Go.RowKit
open Go.WideMaps (KeyLaw)
theorem run_makeMap76 (n : Nat) (w : World) : (Instr.makeMap 76 (some (.int .i64 (n : Int)))).run Try.prog w = .ok (.map (some w.heap.size)) (w.alloc (.map #[] 0)) := by
 simp [Instr.makeMap, run_underlying Try.underlying76, asInt, asIntOf]
/-- A name's key. -/
def keyD (d : Dt) : Value := .agg (keyV d)
def keysB (bs : List Bd) : List Value := bs.map fun b => keyD b.name
theorem lastM_mem {ms : List Int} (h : ms ≠ []) : lastM ms ∈ ms := by
 unfold lastM
 rw [List.getLastD_eq_getLast?, List.getLast?_eq_some_getLast h]
 exact List.getLast_mem h
theorem keyD_ok {d : Dt} (h : d.wf) (hm : d.marks.length ≤ 1000000000) : ∃ kl, keyOf Try.prog 120 (keyD d) = some kl := by
 refine key_ok d.text d.marks.length (lastM d.marks) h.short (WalkArith.wf_i64 (by omega)) ?_
 by_cases e : d.marks = []
 ·rw [e]; rfl
 ·exact h.nums _ (lastM_mem e)
theorem wpList_entry {ops : Array Oper} {rest : List Oper} {o : Oper} {a : Act} {Q : Exit → Act → World → Prop} (w : World) (hg : o.guard = none) (m x : Operand)
  (hop : o.op = Op.mapEntry 76 m x) (base b : Nat) (ks : List Value) (hm : a.eval m = .map (some b)) (hown : TbAt w base b ks) (key : Value) (kl : Lit) (hx : a.eval x = key) (hkey : keyOf Try.prog 120 key = some kl)
  (hK : ∀ (v : Value) (zs : List Nat) (st : Nat) (w1 : World), w.grownBy w1 (some b) → w1.heap.size = w.heap.size → OwnZ w1 base v zs → Spots ks key zs →
   Hid (∀ (w2 : World) (v' : Value), w1.grownBy w2 v.ownBlock → OwnZ w2 base v' (zs ++ [ks.length]) → (v'.ownBlock = v.ownBlock ∨ ∃ g, v'.ownBlock = some g ∧ w1.heap.size ≤ g) →
    ∃ w3, (Instr.entryStore 76 (.map (some b)) (goInt st) v').run Try.prog w2 = .ok () w3 ∧ TbAt w3 base b (ks ++ [key]) ∧ w2.grownBy w3 (some b)) →
   wpList Try.prog ops Q rest (a.put o.dst (.tuple #[v, goInt st])) w1) :
  wpList Try.prog ops Q (o :: rest) a w := by
 refine wpList_plain hg fun K' hK' => ?_
 obtain ⟨v, zs, st, w1, hrun, h1, h2, h3, h4, h5⟩ := run_entry hown hkey
 unfold Oper.wp
 simp [execOp, hop, hm, hx, hrun, Result.andThen]
 exact hK' _ _ (hK v zs st w1 h1 h2 h3 h4 (Lib.hid h5))
theorem wpList_entryStore {ops : Array Oper} {rest : List Oper} {o : Oper} {a : Act} {Q : Exit → Act → World → Prop} (w : World) (hg : o.guard = none) (m s v : Operand)
  (hop : o.op = Op.entryStore 76 m s v) (b : Nat) (st : Nat) (v' : Value) (T : World → Prop) (hm : a.eval m = .map (some b)) (hs : a.eval s = goInt st) (hv : a.eval v = v')
  (hrun : ∃ w3, (Instr.entryStore 76 (.map (some b)) (goInt st) v').run Try.prog w = .ok () w3 ∧ T w3)
  (hK : ∀ w3, T w3 → wpList Try.prog ops Q rest (a.put o.dst undef) w3) : wpList Try.prog ops Q (o :: rest) a w := by
 refine wpList_plain hg fun K' hK' => ?_
 obtain ⟨w3, hrun, hT⟩ := hrun
 unfold Oper.wp
 simp [execOp, hop, hm, hs, hv, hrun, Result.andThen]
 exact hK' _ _ (hK w3 hT)
end Go.Proofs.Ytecljchifebljaa
namespace Go.Proofs.Ytecljchifebljaa
open Go.RowKit
theorem info60 : (Try.prog.info? 60).map (·.size) = some 12 := by kernel_rfl
end Go.Proofs.Ytecljchifebljaa
