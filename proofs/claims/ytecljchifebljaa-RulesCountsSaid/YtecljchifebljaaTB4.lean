/- Rules: the program's tableOf: its walk. -/
import Derived.Test.YtecljchifebljaaYAA
import Derived.Test.YtecljchifebljaaYAC
import Derived.Test.YtecljchifebljaaYAO
set_option linter.unusedVariables false
set_option linter.unusedSimpArgs false
namespace Go.Proofs.Ytecljchifebljaa
open Go Go.RowKit
/-- Cells that are no numbers' rows stand. -/
def KeepsN (w w' : World) : Prop := ∀ (g : Nat) (c : Array Value) (T : TypeId) (fz : Nat × Nat), w.heap[g]? = some (Obj.cells c T fz) → T ≠ 3 → w'.heap[g]? = some (Obj.cells c T fz)
theorem KeepsN.refl (w : World) : KeepsN w w := fun _ _ _ _ h _ => h
theorem KeepsN.trans {a b c : World} (h : KeepsN a b) (k : KeepsN b c) : KeepsN a c := fun g cs T fz hg ht => k g cs T fz (h g cs T fz hg ht) ht
theorem KeepsN.below {w w' : World} (h : Below w.heap.size w w') : KeepsN w w' := fun g c T fz hg _ => by rw [h.block g (Array.getElem?_eq_some_iff.1 hg).1]; exact hg
theorem OwnZ.not_cells {w : World} {base x : Nat} {v : Value} {zs : List Nat} (h : OwnZ w base v zs) {c : Array Value} {T : TypeId} {fz : Nat × Nat} (hx : w.heap[x]? = some (.cells c T fz)) (hT : T ≠ 3) : v.ownBlock ≠ some x := by
 intro e
 rcases h.2 with ⟨e1, _⟩ | ⟨g, cap, cur, e1, _, e3, _⟩
 ·rw [e1] at e; simp [Value.ownBlock] at e
 ·rw [e1] at e
  simp only [Value.ownBlock, Option.some.injEq] at e
  subst e
  rw [e3] at hx
  simp only [Option.some.injEq, Obj.cells.injEq] at hx
  exact hT hx.2.1.symm
/-- A table's value: its row, its map. -/
def TabAt (S : Nat → Prop) (B : Nat) (w : World) (lv : Value) (bm : Nat) (bs : List Bd) : Prop := OwnPI S B w lv bs ∧ TbAt w (bm + 1) bm (keysB bs) ∧ B ≤ bm
def RetTab (bs : List Bd) (w : World) (e : Ending) (w' : World) : Prop := ∃ lv bm, e = .returned (.agg #[lv, .map (some bm)]) ∧ TabAt (fun g => g < w.heap.size) w.heap.size w' lv bm bs ∧ Below w.heap.size w w'
theorem OwnPI.base {S : Nat → Prop} {B B' : Nat} {w : World} {v : Value} {bs : List Bd} (h : OwnPI S B w v bs) (hB : B' ≤ B) : OwnPI S B' w v bs := by
 obtain ⟨xs, ho, hd⟩ := h
 refine ⟨xs, ⟨ho.1, ?_⟩, hd⟩
 rcases ho.2 with hz | ⟨g, cap, cur, rfl, hb, r⟩
 ·exact .inl hz
 ·exact .inr ⟨g, cap, cur, rfl, by omega, r⟩
theorem OwnPI.ne_block {S : Nat → Prop} {B x : Nat} {w : World} {v : Value} {bs : List Bd} (h : OwnPI S B w v bs) {c : Array Value} {T : TypeId} {fz : Nat × Nat} (hx : w.heap[x]? = some (.cells c T fz)) (hT : T ≠ 60) : v.ownBlock = none ∨ v.ownBlock ≠ some x := by
 obtain ⟨xs, ho, _⟩ := h
 rcases ho.2 with ⟨e1, _⟩ | ⟨g, cap, cur, e1, _, e3, _⟩
 ·rw [e1]; exact .inl rfl
 ·rw [e1]
  refine .inr fun e => ?_
  simp only [Value.ownBlock, Option.some.injEq] at e
  subst e
  rw [e3] at hx
  injection hx with hx
  injection hx with _ hx
  exact hT hx.symm
theorem two_set (w : World) (b : Nat) (u v : Value) : w.grownBy ((w.setCell ⟨b, 0, none⟩ u).setCell ⟨b, 1, none⟩ v) (some b) :=
 ⟨rfl, rfl, rfl, by simp [World.setCell], fun k _ hk => by
  rw [heap_setCell_other _ _ _ _ (fun e => hk (by rw [e])), heap_setCell_other _ _ _ _ (fun e => hk (by rw [e]))]⟩
theorem info78 : (Try.prog.info? 78).map (·.size) = some 2 := by kernel_rfl
theorem infoI3 : (Try.prog.info? 3).map (fun i => (i.zero, i.size, i.bytes)) = some (some (.int .i64 0), 1, 8) := by kernel_rfl
theorem incr_len : ∀ (zs : List Nat) (m n : Nat), zs.Pairwise (· < ·) → (∀ i ∈ zs, m ≤ i ∧ i < n) → zs.length ≤ n - m
 | [], _, _, _, _ => Nat.zero_le _
 | z :: r, m, n, hp, h => by
  obtain ⟨h1, h2⟩ := List.pairwise_cons.1 hp
  have := incr_len r (z + 1) n h2 fun i hi => ⟨h1 i hi, (h i (by simp [hi])).2⟩
  have := h z (by simp)
  simp only [List.length_cons]; omega
theorem spots_len {ks : List Value} {key : Value} {zs : List Nat} (h : Spots ks key zs) {n : Nat} (hn : ks.length = n) : zs.length ≤ n := by
 have := incr_len zs 0 n h.1 fun i hi => ⟨Nat.zero_le _, by rw [← hn]; exact (List.getElem?_eq_some_iff.1 ((h.2 i).1 hi)).1⟩
 omega
theorem entry_cell {w w5 : World} {b bm : Nat} {v : Value} (h : w.heap[b]? = some (.cells #[v] 3 (0, 0))) (hg : w.grownBy w5 (some bm)) (hne : b ≠ bm) : ∀ i u, [v][i]? = some u → w5.cell? ((⟨b, 0, none⟩ : Addr).add i) = some u := by
 intro i u hu
 have h5 := (hg.block b (Array.getElem?_eq_some_iff.1 h).1 (fun e => hne (by injection e))).trans h
 rw [add_at, Lib.cell_of_heap h5]
 cases i with
 | zero => simpa using hu
 | succ i => simp at hu
theorem ownZ_more {w : World} {base : Nat} {v : Value} {zs : List Nat} {j : Nat} {ks : List Value} (h : w.ownsRow base 3 1 v (zs.length + 1) ((zs.map fun i : Nat => Value.int .i64 (i : Int)) ++ [.int .i64 (j : Int)])) (hj : ks.length = j) : OwnZ w base v (zs ++ [ks.length]) := by
 unfold OwnZ
 rw [hj, List.map_append, List.length_append]
 exact h
theorem keepsN_round {w w5 w6 w7 : World} {base bm : Nat} {ks : List Value} {v : Value} {zs : List Nat} (hT : TbAt w base bm ks) (h5 : w.grownBy w5 (some bm)) (ho : OwnZ w5 base v zs) (h6 : w5.grownBy w6 v.ownBlock) (h7 : w6.grownBy w7 (some bm)) : KeepsN w w7 := by
 intro g c T fz hg hT3
 have hne : some g ≠ some bm := fun e => by
  injection e with e; subst e
  obtain ⟨es, ck, e2, _⟩ := hT
  rw [hg] at e2; cases e2
 have g5 := (h5.block g (Array.getElem?_eq_some_iff.1 hg).1 hne).trans hg
 have g6 := (h6.block g (Array.getElem?_eq_some_iff.1 g5).1 (fun e => ho.not_cells g5 hT3 e.symm)).trans g5
 exact (h7.block g (Array.getElem?_eq_some_iff.1 g6).1 hne).trans g6
def Z78 : Array Value := #[.slice none 0 0, .map none]
def TbInv (bs : List Bd) (w W0 : World) (bm : Nat) (iv : Value) (wr : World) : Prop :=
 ∃ j : Nat, j ≤ bs.length ∧ iv = .int .i64 (j : Int) ∧ TbAt wr (bm + 1) bm (keysB (bs.take j)) ∧ KeepsN W0 wr ∧ Below w.heap.size w wr ∧ W0.heap.size ≤ wr.heap.size
set_option maxHeartbeats 16000000 in
set_option maxRecDepth 100000 in
theorem tableOf_any (bs : List Bd) (v : Value) (w : World) (hv : PsAt (fun g => g < w.heap.size) w v bs) (hl : bs.length ≤ 1000000) (hwf : ∀ b ∈ bs, b.name.wf) : Calls Try.prog 43 #[v] w (RetTab bs w) := by
 have HV := Lib.hid hv
 have HWF := Lib.hid hwf
 obtain ⟨ao, ac, rfl⟩ := hv.form
 clear hv hwf
 have HCL := Lib.hid (fun W (hW : Below w.heap.size w W) => clone_any bs (.slice ao bs.length ac) W (HV.out.keeps (KeepsB.of_below hW)) (by omega))
 have hmm := fun w => run_makeMap76 bs.length w
 go_enter Try.func43, Try.ntmps43
 go_upto_region 1 with fail
 rename_i K hK
 have hx0 := alloc_at w (.cells Z78 78)
 have hb0 : Below w.heap.size w (w.alloc (.cells Z78 78)) := (Below.refl _ _).alloc (Nat.le_refl _) _
 have hs0 : (w.alloc (.cells Z78 78)).heap.size = w.heap.size + 1 := by simp
 have REST : Hid (∀ (lo : Option Addr) (lc bm bt : Nat) (W : World), Below w.heap.size w W → OwnPI (fun g => g < w.heap.size) w.heap.size W (.slice lo bs.length lc) bs → TbAt W (bm + 1) bm (keysB (bs.take 0)) → w.heap.size < bm →
   W.heap[bt]? = some (Obj.cells #[.slice lo bs.length lc, .map (some bm)] 78 (0, 0)) → w.heap.size < bt → W.heap[w.heap.size]? = some (Obj.cells Z78 78 (0, 0)) →
   K { tmps := #[.slice ao bs.length ac, undef, .pointer (some ⟨w.heap.size, 0, none⟩), .pointer (some ⟨bt, 0, none⟩), undef, undef, undef, .slice ao bs.length ac, .slice lo bs.length lc, .slice ao bs.length ac, .int .i64 (bs.length : Int), .map (some bm), .agg #[.slice lo bs.length lc, .map (some bm)], undef, undef, undef, undef, undef, undef, undef, undef, undef, undef, undef, undef, undef, undef, undef, undef, undef, undef, undef, undef, undef], defers := [] } W) := by
  intro lo lc bm bt W hb hC hM hbmw hA hbtw hx
  refine hK _ _ ?_
  have HB := Lib.hid hb
  have HC0 := Lib.hid hC
  have HM := Lib.hid hM
  have HA := Lib.hid hA
  have HX := Lib.hid hx
  have hbw := hb.size
  clear hK hb hC hM hA hx hx0 hb0 hs0 hmm HCL
  go_wp2_with fail
  go_loopw [15] (fun iv wr => TbInv bs w W bm iv wr) (fun iv _ => bs.length - (intOf iv).toNat)
  case atStart => exact ⟨0, Nat.zero_le _, rfl, HM.out, KeepsN.refl _, HB.out, Nat.le_refl _⟩
  case round =>
   clear HM
   obtain ⟨j, hj, rfl, hT, hKN, hbl, hsz⟩ := hrel
   have HT := Lib.hid hT
   have HKN := Lib.hid hKN
   have HBL := Lib.hid hbl
   have HVr := Lib.hid (HV.out.keeps (keepsB_low hbl))
   have hbt0 : wr.heap[bt]? = some (Obj.cells #[.slice lo bs.length lc, .map (some bm)] 78 (0, 0)) := hKN _ _ _ _ HA.out (by decide)
   have HBT := Lib.hid hbt0
   have hbtl : bt < wr.heap.size := (Array.getElem?_eq_some_iff.1 hbt0).1
   have hbml := hT.lt.1
   clear hT hKN hbl hbt0
   by_cases hlt : j < bs.length
   ·have q1 : decide ((j : Int) < (bs.length : Int)) = true := decide_eq_true (by omega)
    have hwj := HWF.out bs[j] (List.getElem_mem hlt)
    have htk : bs.take (j + 1) = bs.take j ++ [bs[j]] := List.take_succ_eq_append_getElem hlt
    obtain ⟨g, o, arr, fz, cs, rfl, hSg, hgg, hc, hat⟩ := HVr.out.get j hlt
    have hgl : g < wr.heap.size := (Array.getElem?_eq_some_iff.1 hgg).1
    obtain ⟨m1, l1, m2, l2, lr, rfl, hna, _, _, a1, a2, a3, a4, a5⟩ := BdPAt_twelve hat
    have hks : keysB (bs.take (j + 1)) = keysB (bs.take j) ++ [keyD bs[j].name] := by rw [htk]; unfold keysB; rw [List.map_append]; rfl
    have hkl : (keysB (bs.take j)).length = j := by unfold keysB; rw [List.length_map, List.length_take]; omega
    obtain ⟨bj, hbj⟩ : ∃ b, b = bs[j] := ⟨_, rfl⟩
    rw [← hbj] at hna hc hks hwj
    have hmsh : bj.name.marks.length ≤ 1000000000 := by
     have h9 := hna
     cases hn9 : bj.name with
     | mk k t ms l p => rw [hn9, At_mk] at h9; obtain ⟨mv, lv, _, hm, _⟩ := h9; exact hm.short
    obtain ⟨kl, hkey⟩ := keyD_ok hwj hmsh
    obtain ⟨x0, hx0⟩ : ∃ k, k = bj.name.kind := ⟨_, rfl⟩
    obtain ⟨x1, hx1⟩ : ∃ k, k = bj.name.text := ⟨_, rfl⟩
    obtain ⟨x4, hx4⟩ : ∃ k, k = bj.name.place := ⟨_, rfl⟩
    obtain ⟨x5, hx5⟩ : ∃ k, k = bj.deep := ⟨_, rfl⟩
    obtain ⟨x6, hx6⟩ : ∃ k, k = bj.dat.kind := ⟨_, rfl⟩
    obtain ⟨x7, hx7⟩ : ∃ k, k = bj.dat.text := ⟨_, rfl⟩
    obtain ⟨x10, hx10⟩ : ∃ k, k = bj.dat.place := ⟨_, rfl⟩
    obtain ⟨nm, hnm⟩ : ∃ k, k = bj.name.marks.length := ⟨_, rfl⟩
    obtain ⟨lm, hlm⟩ : ∃ k, k = lastM bj.name.marks := ⟨_, rfl⟩
    have hkv : keyV bj.name = #[.string x1, .int .i64 (nm : Int), .int .i64 lm] := by rw [hx1, hnm, hlm]; rfl
    have hkd : keyD bj.name = .agg #[.string x1, .int .i64 (nm : Int), .int .i64 lm] := by unfold keyD; rw [hkv]
    have FK0 := fun W' (h : Keeps (fun g => g < w.heap.size) wr W') => keyOf_any (Dt.At.keeps h _ _ hna)
    have FK := Lib.hid (show ∀ W', Keeps (fun g => g < w.heap.size) wr W' → Calls Try.prog 69 #[.agg #[.int .i64 bj.name.kind, .string bj.name.text, m1, l1, .int .i64 bj.name.place]] W' (fun e w' => e = .returned (.agg #[.string x1, .int .i64 (nm : Int), .int .i64 lm]) ∧ Below W'.heap.size W' w') from fun W' h => (FK0 W' h).mono fun e w' h => ⟨by rw [h.1, hkv], h.2⟩)
    rw [hkd] at hkey hks
    rw [← hx0, ← hx1, ← hx4] at FK
    rw [← hx0, ← hx1, ← hx4, ← hx5, ← hx6, ← hx7, ← hx10] at hc
    have HKS := Lib.hid hks
    have HKEY := Lib.hid hkey
    clear hx0 hx1 hx4 hx5 hx6 hx7 hx10 hnm hlm hkv hkd FK0 hna hat hgg hSg hks hkey hmsh hwj htk hbj
    have hbY : Below wr.heap.size wr (wr.alloc (.cells #[.int .i64 x0, .string x1, m1, l1, .int .i64 x4, .int .i64 x5, .int .i64 x6, .string x7, m2, l2, .int .i64 x10, lr] 60)) := (Below.refl _ _).alloc (Nat.le_refl _) _
    have hxY := alloc_at wr (.cells #[.int .i64 x0, .string x1, m1, l1, .int .i64 x4, .int .i64 x5, .int .i64 x6, .string x7, m2, l2, .int .i64 x10, lr] 60)
    have hsY : (wr.alloc (.cells #[.int .i64 x0, .string x1, m1, l1, .int .i64 x4, .int .i64 x5, .int .i64 x6, .string x7, m2, l2, .int .i64 x10, lr] 60)).heap.size = wr.heap.size + 1 := by simp
    obtain ⟨YY, hYY⟩ : ∃ YY, YY = wr.alloc (.cells #[.int .i64 x0, .string x1, m1, l1, .int .i64 x4, .int .i64 x5, .int .i64 x6, .string x7, m2, l2, .int .i64 x10, lr] 60) := ⟨_, rfl⟩
    rw [← hYY] at hbY hxY hsY
    have HYY := Lib.hid hYY
    have HBY := Lib.hid hbY
    have HXY := Lib.hid hxY
    clear hYY hbY hxY
    have c0 : wr.cell? ⟨g, o + j * 12, none⟩ = some (.int .i64 x0) := hc 0 (by decide)
    have c1 : wr.cell? ⟨g, o + j * 12 + 1, none⟩ = some (.string x1) := hc 1 (by decide)
    have c2 : wr.cell? ⟨g, o + j * 12 + 2, none⟩ = some m1 := hc 2 (by decide)
    have c3 : wr.cell? ⟨g, o + j * 12 + 3, none⟩ = some l1 := hc 3 (by decide)
    have c4 : wr.cell? ⟨g, o + j * 12 + 4, none⟩ = some (.int .i64 x4) := hc 4 (by decide)
    have c5 : wr.cell? ⟨g, o + j * 12 + 5, none⟩ = some (.int .i64 x5) := hc 5 (by decide)
    have c6 : wr.cell? ⟨g, o + j * 12 + 6, none⟩ = some (.int .i64 x6) := hc 6 (by decide)
    have c7 : wr.cell? ⟨g, o + j * 12 + 7, none⟩ = some (.string x7) := hc 7 (by decide)
    have c8 : wr.cell? ⟨g, o + j * 12 + 8, none⟩ = some m2 := hc 8 (by decide)
    have c9 : wr.cell? ⟨g, o + j * 12 + 9, none⟩ = some l2 := hc 9 (by decide)
    have c10 : wr.cell? ⟨g, o + j * 12 + 10, none⟩ = some (.int .i64 x10) := hc 10 (by decide)
    have c11 : wr.cell? ⟨g, o + j * 12 + 11, none⟩ = some lr := hc 11 (by decide)
    go_upto_region 5 with (refine wpList_store_row rfl 60 _ _ rfl wr.heap.size #[.int .i64 x0, .string x1, m1, l1, .int .i64 x4, .int .i64 x5, .int .i64 x6, .string x7, m2, l2, .int .i64 x10, lr] rfl rfl 60 ZB (alloc_at wr (.cells ZB 60)) info60 rfl (by simp [Value.oneCell']; exact ⟨a1, a2, a3, a4, a5⟩) ?_)
    have h3 : (wr.alloc (.cells ZB 60)).setRow wr.heap.size #[.int .i64 x0, .string x1, m1, l1, .int .i64 x4, .int .i64 x5, .int .i64 x6, .string x7, m2, l2, .int .i64 x10, lr] = wr.alloc (.cells #[.int .i64 x0, .string x1, m1, l1, .int .i64 x4, .int .i64 x5, .int .i64 x6, .string x7, m2, l2, .int .i64 x10, lr] 60) := setRow_new_at _ _ _ _ _ rfl
    try simp only [ZB] at h3
    try rw [h3]
    clear h3 c0 c1 c2 c3 c4 c5 c6 c7 c8 c9 c10 c11
    rw [← HYY.out]
    have y0 : YY.cell? ⟨wr.heap.size, 0, none⟩ = some (.int .i64 x0) := by rw [Lib.cell_of_heap HXY.out]; rfl
    have y1 : YY.cell? ⟨wr.heap.size, 1, none⟩ = some (.string x1) := by rw [Lib.cell_of_heap HXY.out]; rfl
    have y2 : YY.cell? ⟨wr.heap.size, 2, none⟩ = some m1 := by rw [Lib.cell_of_heap HXY.out]; rfl
    have y3 : YY.cell? ⟨wr.heap.size, 3, none⟩ = some l1 := by rw [Lib.cell_of_heap HXY.out]; rfl
    have y4 : YY.cell? ⟨wr.heap.size, 4, none⟩ = some (.int .i64 x4) := by rw [Lib.cell_of_heap HXY.out]; rfl
    go_wp2_with fail
    refine (FK.out YY (keeps_low (HBY.out.mono (by omega)))).mono ?_
    rintro e w3 ⟨rfl, hb3⟩
    clear y0 y1 y2 y3 y4
    have hs3 := hb3.size
    have HB3 := Lib.hid (HBY.out.trans (hb3.mono (by omega)))
    clear hb3
    go_upto_region 6 with fail
    have hbZ : Below w3.heap.size w3 (w3.alloc (.cells #[.string x1, .int .i64 (nm : Int), .int .i64 lm] 120)) := (Below.refl _ _).alloc (Nat.le_refl _) _
    have hxZ := alloc_at w3 (.cells #[.string x1, .int .i64 (nm : Int), .int .i64 lm] 120)
    have hsZ : (w3.alloc (.cells #[.string x1, .int .i64 (nm : Int), .int .i64 lm] 120)).heap.size = w3.heap.size + 1 := by simp
    obtain ⟨Z, hZ⟩ : ∃ Z, Z = w3.alloc (.cells #[.string x1, .int .i64 (nm : Int), .int .i64 lm] 120) := ⟨_, rfl⟩
    rw [← hZ] at hbZ hxZ hsZ
    rw [← hZ]
    have hbZr : Below wr.heap.size wr Z := HB3.out.trans (hbZ.mono (by omega))
    have HBZ := Lib.hid hbZr
    have HXZ := Lib.hid hxZ
    obtain ⟨kb, hkb⟩ : ∃ k, k = w3.heap.size := ⟨_, rfl⟩
    rw [← hkb] at HXZ ⊢
    have hZbt : Z.heap[bt]? = some (Obj.cells #[.slice lo bs.length lc, .map (some bm)] 78 (0, 0)) := (hbZr.block _ hbtl).trans HBT.out
    have z1 : Z.cell? ⟨bt, 1, none⟩ = some (.map (some bm)) := by rw [Lib.cell_of_heap hZbt]; rfl
    have k0 : Z.cell? ⟨kb, 0, none⟩ = some (.string x1) := by rw [Lib.cell_of_heap HXZ.out]; rfl
    have k1 : Z.cell? ⟨kb, 1, none⟩ = some (.int .i64 (nm : Int)) := by rw [Lib.cell_of_heap HXZ.out]; rfl
    have k2 : Z.cell? ⟨kb, 2, none⟩ = some (.int .i64 lm) := by rw [Lib.cell_of_heap HXZ.out]; rfl
    have hsz2 : wr.heap.size ≤ Z.heap.size := hbZr.size
    have hT2 : TbAt (Z.alloc (.cells #[.int .i64 (j : Int)] 3)) (bm + 1) bm (keysB (bs.take j)) :=
     (HT.out.kept (Below.grownRow hbZr none) (fun r e => by cases e)).kept (World.grownBy_alloc _ _ none) (fun r e => by cases e)
    have hnb := alloc_at Z (.cells #[.int .i64 (j : Int)] 3)
    have hs4 : (Z.alloc (.cells #[.int .i64 (j : Int)] 3)).heap.size = Z.heap.size + 1 := by simp
    have hT4 : Below Z.heap.size Z (Z.alloc (.cells #[.int .i64 (j : Int)] 3)) := (Below.refl _ _).alloc (Nat.le_refl _) _
    obtain ⟨i3, hi3, hz3, hs3', hb3⟩ := info_parts infoI3
    have HT2 := Lib.hid hT2
    have HNB := Lib.hid hnb
    have HT4 := Lib.hid hT4
    clear hZ hbZ hxZ hsZ hbZr hZbt hT2 hnb hT4 HT hkb
    go_wp2_with (first
     | (refine wpList_entry _ rfl _ _ rfl (bm + 1) bm (keysB (bs.take j)) rfl HT2.out _ kl rfl HKEY.out ?_; intro v zs st w5 hg5 hs5 ho5 hz5 hback; have hlen5 : zs.length ≤ j := spots_len hz5 hkl; have hc5 : ∀ i u, [Value.int .i64 (j : Int)][i]? = some u → w5.cell? ((⟨Z.heap.size, 0, none⟩ : Addr).add i) = some u := entry_cell HNB.out hg5 (by omega); have hm5 : zs.length + 1 ≤ maxLen := Nat.le_trans (by omega : zs.length + 1 ≤ 10000000) (by decide); have hm6 : (zs.length + 1) * 8 ≤ 140737488355328 := (by omega); have hm7 : bm + 1 ≤ w5.heap.size := (by omega); have hone5 : ∀ u ∈ [Value.int .i64 (j : Int)], u.oneCell' = true := (by simp [Value.oneCell']); have HG5 := Lib.hid hg5; have HS5 := Lib.hid hs5; have HO5 := Lib.hid ho5; have HZ5 := Lib.hid hz5; clear hg5 hs5 ho5 hz5)
     | (at_builtin; refine wpList_append_own_at _ rfl _ _ 27 rfl (bm + 1) 3 i3 (.int .i64 0) 1 8 Try.underlying27 hi3 hz3 hs3' hb3 rfl (by decide) _ _ _ rfl HO5.out ⟨Z.heap.size, 0, none⟩ 1 1 [.int .i64 (j : Int)] rfl rfl hc5 hone5 hm5 hm6 hm7 ?_; intro v' w6 hown6 hg6 hnil6 hloc6; have HOW := Lib.hid hown6; have HG6 := Lib.hid hg6; have HLO := Lib.hid hloc6; clear hown6 hg6 hnil6 hloc6)
     | (refine wpList_entryStore _ rfl _ _ _ rfl bm st v' (fun w3 => TbAt w3 (bm + 1) bm (keysB (bs.take j) ++ [.agg #[.string x1, .int .i64 (nm : Int), .int .i64 lm]]) ∧ w6.grownBy w3 (some bm)) rfl rfl rfl (hback.out w6 v' HG6.out (ownZ_more HOW.out hkl) (HLO.out.imp id (fun h => ⟨_, h, Nat.le_refl _⟩))) ?_; intro w7 hw7)
     | go_in)
    have hs7 := HG5.out.size
    have hg6' : w5.grownBy w6 v.ownBlock := HG6.out
    have hs8 := hg6'.size
    have hs9 := hw7.2.size
    have hlow5 : ∀ k, v.ownBlock = some k → bm + 1 ≤ k := fun k e => (World.ownsRow.lt HO5.out k e).1
    have HN : Hid (KeepsN (Z.alloc (.cells #[.int .i64 (j : Int)] 3)) w7) := keepsN_round HT2.out HG5.out HO5.out hg6' hw7.2
    have HB7 : Hid (Below w.heap.size w w7) := ((((HBL.out.trans (HBZ.out.mono HBL.out.size)).trans (HT4.out.mono (by have := HBL.out.size; omega))).grown HG5.out (by have := HBL.out.size; omega) (fun k e => by injection e with e; omega)).grown hg6' (by have := HBL.out.size; omega) (fun k e => by have := hlow5 k e; omega)).grown hw7.2 (by have := HBL.out.size; omega) (fun k e => by injection e with e; omega)
    have HKN2 : Hid (KeepsN W w7) := (HKN.out.trans ((KeepsN.below HBZ.out).trans (KeepsN.below HT4.out))).trans HN.out
    have HT7 := Lib.hid hw7.1
    have hsw7 : W.heap.size ≤ w7.heap.size := by have := HBZ.out.size; omega
    clear hw7 hg6' hlow5
    go_roundw
    case rel => exact ⟨j + 1, by omega, by go_num, HKS.out ▸ HT7.out, HKN2.out, HB7.out, hsw7⟩
    case measure => simp [intOf]; omega
   ·obtain rfl : j = bs.length := by omega
    have q1 : decide ((bs.length : Int) < (bs.length : Int)) = false := decide_eq_false (by omega)
    have hxr : wr.heap[w.heap.size]? = some (Obj.cells Z78 78 (0, 0)) := HKN.out _ _ _ _ HX.out (by decide)
    have b0 : wr.cell? ⟨bt, 0, none⟩ = some (.slice lo bs.length lc) := by rw [Lib.cell_of_heap HBT.out]; rfl
    have b1 : wr.cell? ⟨bt, 1, none⟩ = some (.map (some bm)) := by rw [Lib.cell_of_heap HBT.out]; rfl
    have e0 : wr.cell? ⟨w.heap.size, 0, none⟩ = some (.slice none 0 0) := by rw [Lib.cell_of_heap hxr]; rfl
    have e1 : wr.cell? ⟨w.heap.size, 1, none⟩ = some (.map none) := by rw [Lib.cell_of_heap hxr]; rfl
    have f0 : wr.frozen? ⟨w.heap.size, 0, none⟩ = false := by simp [World.frozen?, hxr]
    have f1 : wr.frozen? ⟨w.heap.size, 1, none⟩ = false := by simp [World.frozen?, hxr]
    have HXR := Lib.hid hxr
    clear hxr
    go_wp2_with fail
    have hH1 : (wr.setCell ⟨w.heap.size, 0, none⟩ (.slice lo bs.length lc)).heap[w.heap.size]? = some (Obj.cells #[.slice lo bs.length lc, .map none] 78 (0, 0)) := heap_setCell_same wr w.heap.size 0 Z78 78 _ HXR.out
    have hH2 : ((wr.setCell ⟨w.heap.size, 0, none⟩ (.slice lo bs.length lc)).setCell ⟨w.heap.size, 1, none⟩ (.map (some bm))).heap[w.heap.size]? = some (Obj.cells #[.slice lo bs.length lc, .map (some bm)] 78 (0, 0)) := heap_setCell_same _ w.heap.size 1 _ 78 _ hH1
    have hgW := two_set wr w.heap.size (.slice lo bs.length lc) (.map (some bm))
    refine bodyPost_ret (results_cell_row rfl _ _ w.heap.size 78 #[.slice lo bs.length lc, .map (some bm)] (0, 0) _ rfl hH2 Try.underlying78 rfl info78) rfl ?_
    refine ⟨_, bm, rfl, ⟨?_, ?_, by omega⟩, HBL.out.grown hgW HBL.out.size (fun k e => by injection e with e; omega)⟩
    ·have hC := HC0.out
     have hC2 : OwnPI (fun g => g < w.heap.size) w.heap.size wr (.slice lo bs.length lc) bs := by
      obtain ⟨xs, ho, hd⟩ := hC
      refine ⟨xs, ⟨ho.1, ?_⟩, fun i hi => ?_⟩
      ·rcases ho.2 with hz | ⟨g9, cap9, cur9, e9, hb9, h9, r9⟩
       ·exact .inl hz
       ·exact .inr ⟨g9, cap9, cur9, e9, hb9, HKN.out _ _ _ _ h9 (by decide), r9⟩
      ·obtain ⟨cs9, c5, c1, c3⟩ := hd i hi
       exact ⟨cs9, c5, c1, Bd.PAt.keeps (fun g c T fz hg h => ⟨fz, by rw [HBL.out.block g hg, ← HB.out.block g hg]; exact h⟩) _ _ c3⟩
     exact hC2.kept hgW (hC2.ne_block HXR.out (by decide)) (fun g c T fz hg h => ⟨fz, (hgW.block g (Array.getElem?_eq_some_iff.1 h).1 (fun e => by injection e with e; have : g < w.heap.size := hg; omega)).trans h⟩)
    ·have hT9 := HT.out
     rw [List.take_length] at hT9
     exact hT9.kept hgW (fun r e => by injection e with e; subst e; exact ⟨by omega, .inl (by omega)⟩)
 obtain ⟨W0, hW0⟩ : ∃ W0, W0 = w.alloc (.cells Z78 78) := ⟨_, rfl⟩
 rw [← hW0] at hx0 hb0 hs0
 have hW0' : w.alloc (.cells #[.slice none 0 0, .map none] 78) = W0 := hW0.symm
 rw [hW0']
 clear hW0 hW0'
 have hx : W0.drew.heap[w.heap.size]? = some (Obj.cells Z78 78 (0, 0)) := hx0
 have hb : Below w.heap.size w W0.drew := hb0.drew
 have hlt : w.heap.size < W0.drew.heap.size := by rw [show W0.drew.heap.size = W0.heap.size from rfl]; omega
 refine wp_region_noPanic ?_
 refine wp_region_held_drew (S := fun _ => True) (by kernel_rfl) trivial (fun hHeld => ?_)
 generalize W0.drew = V_ at hx hb hlt ⊢
 clear hx0 hb0 hs0 hHeld
 have hHeld : True := trivial
 refine qts [0, 2, 3] hHeld ?_
 iterate 3 (refine qtc (v := ?_) rfl rfl (fun w' hw' => ?_) ?_; rotate_left; (focus (go_simp; try with_reducible rfl)); simp only [zt,zs,zz,Act.put,zi,zy,zx])
 refine qtn ?_
 simp only [zt,zs,zz,Act.put,zi,zy,zx,qzl,qzn,qza,Nat.reduceAdd,Nat.reduceSub]
 refine wpAnyH_ready (rs := [1, 4, 6]) (by kernel_rfl) (by simp) ?_
 refine (AllReadyH.cons rfl (fun K hK => ?_) (AllReadyH.cons rfl (fun K hK => ?_) (AllReadyH.cons rfl (fun K hK => ?_) AllReadyH.nil)))
 ·skip
  go_simp
  refine (HCL.out V_ hb).mono ?_
  rintro e V_1 ⟨lv, rfl, hC, hbN⟩
  obtain ⟨lo, lc, rfl⟩ := hC.form
  have hsN := hbN.size
  have hx : V_1.heap[w.heap.size]? = some (Obj.cells Z78 78 (0, 0)) := (hbN.block _ hlt).trans hx
  have hb : Below w.heap.size w V_1 := hb.trans (hbN.mono (by omega))
  have hlt : w.heap.size < V_1.heap.size := by omega
  have hC := hC.base (by omega : w.heap.size ≤ V_.heap.size)
  refine hK.out _ _ trivial (fun hHeld => ?_)
  clear hK K
  try simp only [zt,zs,zz,Act.put,zi,zy,zx]
  refine wpAnyH_ready (rs := [4, 6]) (by kernel_rfl) (by simp) ?_
  refine (AllReadyH.cons rfl (fun K hK => ?_) (AllReadyH.cons rfl (fun K hK => ?_) AllReadyH.nil))
  ·skip
   go_simp
   have hbN : Below V_1.heap.size V_1 (V_1.alloc (.map #[] 0)) := (Below.refl _ _).alloc (Nat.le_refl _) _
   have hM9 : TbAt (V_1.alloc (.map #[] 0)) (V_1.heap.size + 1) V_1.heap.size [] := TbAt.made _
   have hsN : (V_1.alloc (.map #[] 0)).heap.size = V_1.heap.size + 1 := by simp
   refine hK.out _ _ trivial (fun hHeld => ?_)
   generalize V_1.alloc (.map #[] 0) = V_14 at hbN hM9 hsN ⊢
   obtain ⟨bm, hbm⟩ : ∃ m, m = V_1.heap.size := ⟨_, rfl⟩
   have hx : V_14.heap[w.heap.size]? = some (Obj.cells Z78 78 (0, 0)) := (hbN.block _ hlt).trans hx
   have hb : Below w.heap.size w V_14 := hb.trans (hbN.mono (by omega))
   have hC : OwnPI (fun g => g < w.heap.size) w.heap.size V_14 (.slice lo bs.length lc) bs := hC.below hbN
   rw [← hbm] at hM9 ⊢
   have hM := hM9
   have hbmw : w.heap.size < bm := by omega
   have hlt : w.heap.size < V_14.heap.size := by omega
   clear hM9 hbN hsN hbm
   clear hK K
   try simp only [zt,zs,zz,Act.put,zi,zy,zx]
   refine qtk (i := 5) (v := ?v3) rfl rfl (fun w' hw' => ?h3) hHeld ?r3
   case h3 => go_simp; try with_reducible rfl
   simp only [zt,zs,zz,Act.put,zi,zy,zx]
   refine wpAnyH_ready (rs := [6]) (by kernel_rfl) (by simp) ?_
   refine (AllReadyH.cons rfl (fun K hK => ?_) AllReadyH.nil)
   go_simp
   have hbN : Below V_14.heap.size V_14 (V_14.alloc (.cells Z78 78)) := (Below.refl _ _).alloc (Nat.le_refl _) _
   have hA9 : (V_14.alloc (.cells Z78 78)).heap[V_14.heap.size]? = some (Obj.cells Z78 78 (0, 0)) := alloc_at _ _
   have hsN : (V_14.alloc (.cells Z78 78)).heap.size = V_14.heap.size + 1 := by simp
   have hZ9 : V_14.alloc (.cells #[.slice none 0 0, .map none] 78) = V_14.alloc (.cells Z78 78) := rfl
   refine hK.out _ _ trivial (fun hHeld => ?_)
   rw [hZ9]
   clear hZ9
   generalize V_14.alloc (.cells Z78 78) = V_146 at hbN hA9 hsN ⊢
   obtain ⟨bt, hbt⟩ : ∃ m, m = V_14.heap.size := ⟨_, rfl⟩
   have hx : V_146.heap[w.heap.size]? = some (Obj.cells Z78 78 (0, 0)) := (hbN.block _ hlt).trans hx
   have hb : Below w.heap.size w V_146 := hb.trans (hbN.mono (by omega))
   have hC : OwnPI (fun g => g < w.heap.size) w.heap.size V_146 (.slice lo bs.length lc) bs := hC.below hbN
   have hM : TbAt V_146 (bm + 1) bm [] := hM.kept (Below.grownRow hbN none) (fun r e => by cases e)
   rw [← hbt] at hA9 ⊢
   have hA := hA9
   have hbtw : w.heap.size < bt := by omega
   have hlt : w.heap.size < V_146.heap.size := by omega
   clear hA9 hbN hsN hbt
   clear hK K
   try simp only [zt,zs,zz,Act.put,zi,zy,zx]
   refine wpAnyH_ready (rs := [7]) (by kernel_rfl) (by simp) ?_
   refine (AllReadyH.cons rfl (fun K hK => ?_) AllReadyH.nil)
   have c0 : V_146.cell? ⟨bt, 0, none⟩ = some (.slice none 0 0) := by rw [Lib.cell_of_heap hA]; rfl
   have c1 : V_146.cell? ⟨bt, 1, none⟩ = some (.map none) := by rw [Lib.cell_of_heap hA]; rfl
   have f0 : V_146.frozen? ⟨bt, 0, none⟩ = false := by simp [World.frozen?, hA]
   have f1 : V_146.frozen? ⟨bt, 1, none⟩ = false := by simp [World.frozen?, hA]
   go_simp
   have hA1 : (V_146.setCell ⟨bt, 0, none⟩ (.slice lo bs.length lc)).heap[bt]? = some (Obj.cells #[.slice lo bs.length lc, .map none] 78 (0, 0)) := heap_setCell_same V_146 bt 0 Z78 78 _ hA
   have hA2 : ((V_146.setCell ⟨bt, 0, none⟩ (.slice lo bs.length lc)).setCell ⟨bt, 1, none⟩ (.map (some bm))).heap[bt]? = some (Obj.cells #[.slice lo bs.length lc, .map (some bm)] 78 (0, 0)) := heap_setCell_same _ bt 1 _ 78 _ hA1
   have hgW : V_146.grownBy ((V_146.setCell ⟨bt, 0, none⟩ (.slice lo bs.length lc)).setCell ⟨bt, 1, none⟩ (.map (some bm))) (some bt) := two_set V_146 bt _ _
   refine hK.out _ _ trivial (fun hHeld => ?_)
   generalize (V_146.setCell ⟨bt, 0, none⟩ (.slice lo bs.length lc)).setCell ⟨bt, 1, none⟩ (.map (some bm)) = V9 at hA2 hgW ⊢
   have hbmt : bt ≠ bm := fun e => by subst e; obtain ⟨es, ck, e2, _⟩ := hM; rw [hA] at e2; cases e2
   have hx := (hgW.block _ hlt (fun e => by injection e with e; omega)).trans hx
   have hM : TbAt V9 (bm + 1) bm [] := hM.kept hgW (fun r e => by injection e with e; subst e; exact ⟨hbmt, .inr (fun c fz e2 => by rw [hA] at e2; injection e2 with e2; injection e2 with _ e2; exact absurd e2 (by decide))⟩)
   have hbV : Below w.heap.size w V9 := hb.grown hgW hb.size (fun k e => by injection e with e; omega)
   have hC := hC.kept hgW (hC.ne_block hA (by decide)) (fun g c T fz hg h => ⟨fz, (hgW.block g (Array.getElem?_eq_some_iff.1 h).1 (fun e => by injection e with e; have : g < w.heap.size := hg; omega)).trans h⟩)
   have hb := hbV
   have hA := hA2
   clear c0 c1 f0 f1 hA1 hA2 hgW hbV
   clear hK K
   try simp only [zt,zs,zz,Act.put,zi,zy,zx]
   refine wpAnyH_done (by kernel_rfl) ?_ _
   refine NoPanic.normal ?_
   clear hHeld
   exact REST.out _ _ _ _ _ hb hC hM hbmw hA hbtw hx
  ·skip
   go_simp
   have hbN : Below V_1.heap.size V_1 (V_1.alloc (.cells Z78 78)) := (Below.refl _ _).alloc (Nat.le_refl _) _
   have hA9 : (V_1.alloc (.cells Z78 78)).heap[V_1.heap.size]? = some (Obj.cells Z78 78 (0, 0)) := alloc_at _ _
   have hsN : (V_1.alloc (.cells Z78 78)).heap.size = V_1.heap.size + 1 := by simp
   have hZ9 : V_1.alloc (.cells #[.slice none 0 0, .map none] 78) = V_1.alloc (.cells Z78 78) := rfl
   refine hK.out _ _ trivial (fun hHeld => ?_)
   rw [hZ9]
   clear hZ9
   generalize V_1.alloc (.cells Z78 78) = V_16 at hbN hA9 hsN ⊢
   obtain ⟨bt, hbt⟩ : ∃ m, m = V_1.heap.size := ⟨_, rfl⟩
   have hx : V_16.heap[w.heap.size]? = some (Obj.cells Z78 78 (0, 0)) := (hbN.block _ hlt).trans hx
   have hb : Below w.heap.size w V_16 := hb.trans (hbN.mono (by omega))
   have hC : OwnPI (fun g => g < w.heap.size) w.heap.size V_16 (.slice lo bs.length lc) bs := hC.below hbN
   rw [← hbt] at hA9 ⊢
   have hA := hA9
   have hbtw : w.heap.size < bt := by omega
   have hlt : w.heap.size < V_16.heap.size := by omega
   clear hA9 hbN hsN hbt
   clear hK K
   try simp only [zt,zs,zz,Act.put,zi,zy,zx]
   refine wpAnyH_ready (rs := [4]) (by kernel_rfl) (by simp) ?_
   refine (AllReadyH.cons rfl (fun K hK => ?_) AllReadyH.nil)
   go_simp
   have hbN : Below V_16.heap.size V_16 (V_16.alloc (.map #[] 0)) := (Below.refl _ _).alloc (Nat.le_refl _) _
   have hM9 : TbAt (V_16.alloc (.map #[] 0)) (V_16.heap.size + 1) V_16.heap.size [] := TbAt.made _
   have hsN : (V_16.alloc (.map #[] 0)).heap.size = V_16.heap.size + 1 := by simp
   refine hK.out _ _ trivial (fun hHeld => ?_)
   generalize V_16.alloc (.map #[] 0) = V_146 at hbN hM9 hsN ⊢
   obtain ⟨bm, hbm⟩ : ∃ m, m = V_16.heap.size := ⟨_, rfl⟩
   have hx : V_146.heap[w.heap.size]? = some (Obj.cells Z78 78 (0, 0)) := (hbN.block _ hlt).trans hx
   have hb : Below w.heap.size w V_146 := hb.trans (hbN.mono (by omega))
   have hC : OwnPI (fun g => g < w.heap.size) w.heap.size V_146 (.slice lo bs.length lc) bs := hC.below hbN
   have hA : V_146.heap[bt]? = some (Obj.cells Z78 78 (0, 0)) := (hbN.block _ (Array.getElem?_eq_some_iff.1 hA).1).trans hA
   rw [← hbm] at hM9 ⊢
   have hM := hM9
   have hbmw : w.heap.size < bm := by omega
   have hlt : w.heap.size < V_146.heap.size := by omega
   clear hM9 hbN hsN hbm
   clear hK K
   try simp only [zt,zs,zz,Act.put,zi,zy,zx]
   refine qtk (i := 5) (v := ?v4) rfl rfl (fun w' hw' => ?h4) hHeld ?r4
   case h4 => go_simp; try with_reducible rfl
   simp only [zt,zs,zz,Act.put,zi,zy,zx]
   refine wpAnyH_ready (rs := [7]) (by kernel_rfl) (by simp) ?_
   refine (AllReadyH.cons rfl (fun K hK => ?_) AllReadyH.nil)
   have c0 : V_146.cell? ⟨bt, 0, none⟩ = some (.slice none 0 0) := by rw [Lib.cell_of_heap hA]; rfl
   have c1 : V_146.cell? ⟨bt, 1, none⟩ = some (.map none) := by rw [Lib.cell_of_heap hA]; rfl
   have f0 : V_146.frozen? ⟨bt, 0, none⟩ = false := by simp [World.frozen?, hA]
   have f1 : V_146.frozen? ⟨bt, 1, none⟩ = false := by simp [World.frozen?, hA]
   go_simp
   have hA1 : (V_146.setCell ⟨bt, 0, none⟩ (.slice lo bs.length lc)).heap[bt]? = some (Obj.cells #[.slice lo bs.length lc, .map none] 78 (0, 0)) := heap_setCell_same V_146 bt 0 Z78 78 _ hA
   have hA2 : ((V_146.setCell ⟨bt, 0, none⟩ (.slice lo bs.length lc)).setCell ⟨bt, 1, none⟩ (.map (some bm))).heap[bt]? = some (Obj.cells #[.slice lo bs.length lc, .map (some bm)] 78 (0, 0)) := heap_setCell_same _ bt 1 _ 78 _ hA1
   have hgW : V_146.grownBy ((V_146.setCell ⟨bt, 0, none⟩ (.slice lo bs.length lc)).setCell ⟨bt, 1, none⟩ (.map (some bm))) (some bt) := two_set V_146 bt _ _
   refine hK.out _ _ trivial (fun hHeld => ?_)
   generalize (V_146.setCell ⟨bt, 0, none⟩ (.slice lo bs.length lc)).setCell ⟨bt, 1, none⟩ (.map (some bm)) = V9 at hA2 hgW ⊢
   have hbmt : bt ≠ bm := fun e => by subst e; obtain ⟨es, ck, e2, _⟩ := hM; rw [hA] at e2; cases e2
   have hx := (hgW.block _ hlt (fun e => by injection e with e; omega)).trans hx
   have hM : TbAt V9 (bm + 1) bm [] := hM.kept hgW (fun r e => by injection e with e; subst e; exact ⟨hbmt, .inr (fun c fz e2 => by rw [hA] at e2; injection e2 with e2; injection e2 with _ e2; exact absurd e2 (by decide))⟩)
   have hbV : Below w.heap.size w V9 := hb.grown hgW hb.size (fun k e => by injection e with e; omega)
   have hC := hC.kept hgW (hC.ne_block hA (by decide)) (fun g c T fz hg h => ⟨fz, (hgW.block g (Array.getElem?_eq_some_iff.1 h).1 (fun e => by injection e with e; have : g < w.heap.size := hg; omega)).trans h⟩)
   have hb := hbV
   have hA := hA2
   clear c0 c1 f0 f1 hA1 hA2 hgW hbV
   clear hK K
   try simp only [zt,zs,zz,Act.put,zi,zy,zx]
   refine wpAnyH_done (by kernel_rfl) ?_ _
   refine NoPanic.normal ?_
   clear hHeld
   exact REST.out _ _ _ _ _ hb hC hM hbmw hA hbtw hx
 ·skip
  go_simp
  have hbN : Below V_.heap.size V_ (V_.alloc (.map #[] 0)) := (Below.refl _ _).alloc (Nat.le_refl _) _
  have hM9 : TbAt (V_.alloc (.map #[] 0)) (V_.heap.size + 1) V_.heap.size [] := TbAt.made _
  have hsN : (V_.alloc (.map #[] 0)).heap.size = V_.heap.size + 1 := by simp
  refine hK.out _ _ trivial (fun hHeld => ?_)
  generalize V_.alloc (.map #[] 0) = V_4 at hbN hM9 hsN ⊢
  obtain ⟨bm, hbm⟩ : ∃ m, m = V_.heap.size := ⟨_, rfl⟩
  have hx : V_4.heap[w.heap.size]? = some (Obj.cells Z78 78 (0, 0)) := (hbN.block _ hlt).trans hx
  have hb : Below w.heap.size w V_4 := hb.trans (hbN.mono (by omega))
  rw [← hbm] at hM9 ⊢
  have hM := hM9
  have hbmw : w.heap.size < bm := by omega
  have hlt : w.heap.size < V_4.heap.size := by omega
  clear hM9 hbN hsN hbm
  clear hK K
  try simp only [zt,zs,zz,Act.put,zi,zy,zx]
  refine wpAnyH_ready (rs := [1, 6]) (by kernel_rfl) (by simp) ?_
  refine (AllReadyH.cons rfl (fun K hK => ?_) (AllReadyH.cons rfl (fun K hK => ?_) AllReadyH.nil))
  ·skip
   go_simp
   refine (HCL.out V_4 hb).mono ?_
   rintro e V_14 ⟨lv, rfl, hC, hbN⟩
   obtain ⟨lo, lc, rfl⟩ := hC.form
   have hsN := hbN.size
   have hx : V_14.heap[w.heap.size]? = some (Obj.cells Z78 78 (0, 0)) := (hbN.block _ hlt).trans hx
   have hb : Below w.heap.size w V_14 := hb.trans (hbN.mono (by omega))
   have hM : TbAt V_14 (bm + 1) bm [] := hM.kept (Below.grownRow hbN none) (fun r e => by cases e)
   have hlt : w.heap.size < V_14.heap.size := by omega
   have hC := hC.base (by omega : w.heap.size ≤ V_4.heap.size)
   refine hK.out _ _ trivial (fun hHeld => ?_)
   clear hK K
   try simp only [zt,zs,zz,Act.put,zi,zy,zx]
   refine qtk (i := 5) (v := ?v5) rfl rfl (fun w' hw' => ?h5) hHeld ?r5
   case h5 => go_simp; try with_reducible rfl
   simp only [zt,zs,zz,Act.put,zi,zy,zx]
   refine wpAnyH_ready (rs := [6]) (by kernel_rfl) (by simp) ?_
   refine (AllReadyH.cons rfl (fun K hK => ?_) AllReadyH.nil)
   go_simp
   have hbN : Below V_14.heap.size V_14 (V_14.alloc (.cells Z78 78)) := (Below.refl _ _).alloc (Nat.le_refl _) _
   have hA9 : (V_14.alloc (.cells Z78 78)).heap[V_14.heap.size]? = some (Obj.cells Z78 78 (0, 0)) := alloc_at _ _
   have hsN : (V_14.alloc (.cells Z78 78)).heap.size = V_14.heap.size + 1 := by simp
   have hZ9 : V_14.alloc (.cells #[.slice none 0 0, .map none] 78) = V_14.alloc (.cells Z78 78) := rfl
   refine hK.out _ _ trivial (fun hHeld => ?_)
   rw [hZ9]
   clear hZ9
   generalize V_14.alloc (.cells Z78 78) = V_146 at hbN hA9 hsN ⊢
   obtain ⟨bt, hbt⟩ : ∃ m, m = V_14.heap.size := ⟨_, rfl⟩
   have hx : V_146.heap[w.heap.size]? = some (Obj.cells Z78 78 (0, 0)) := (hbN.block _ hlt).trans hx
   have hb : Below w.heap.size w V_146 := hb.trans (hbN.mono (by omega))
   have hC : OwnPI (fun g => g < w.heap.size) w.heap.size V_146 (.slice lo bs.length lc) bs := hC.below hbN
   have hM : TbAt V_146 (bm + 1) bm [] := hM.kept (Below.grownRow hbN none) (fun r e => by cases e)
   rw [← hbt] at hA9 ⊢
   have hA := hA9
   have hbtw : w.heap.size < bt := by omega
   have hlt : w.heap.size < V_146.heap.size := by omega
   clear hA9 hbN hsN hbt
   clear hK K
   try simp only [zt,zs,zz,Act.put,zi,zy,zx]
   refine wpAnyH_ready (rs := [7]) (by kernel_rfl) (by simp) ?_
   refine (AllReadyH.cons rfl (fun K hK => ?_) AllReadyH.nil)
   have c0 : V_146.cell? ⟨bt, 0, none⟩ = some (.slice none 0 0) := by rw [Lib.cell_of_heap hA]; rfl
   have c1 : V_146.cell? ⟨bt, 1, none⟩ = some (.map none) := by rw [Lib.cell_of_heap hA]; rfl
   have f0 : V_146.frozen? ⟨bt, 0, none⟩ = false := by simp [World.frozen?, hA]
   have f1 : V_146.frozen? ⟨bt, 1, none⟩ = false := by simp [World.frozen?, hA]
   go_simp
   have hA1 : (V_146.setCell ⟨bt, 0, none⟩ (.slice lo bs.length lc)).heap[bt]? = some (Obj.cells #[.slice lo bs.length lc, .map none] 78 (0, 0)) := heap_setCell_same V_146 bt 0 Z78 78 _ hA
   have hA2 : ((V_146.setCell ⟨bt, 0, none⟩ (.slice lo bs.length lc)).setCell ⟨bt, 1, none⟩ (.map (some bm))).heap[bt]? = some (Obj.cells #[.slice lo bs.length lc, .map (some bm)] 78 (0, 0)) := heap_setCell_same _ bt 1 _ 78 _ hA1
   have hgW : V_146.grownBy ((V_146.setCell ⟨bt, 0, none⟩ (.slice lo bs.length lc)).setCell ⟨bt, 1, none⟩ (.map (some bm))) (some bt) := two_set V_146 bt _ _
   refine hK.out _ _ trivial (fun hHeld => ?_)
   generalize (V_146.setCell ⟨bt, 0, none⟩ (.slice lo bs.length lc)).setCell ⟨bt, 1, none⟩ (.map (some bm)) = V9 at hA2 hgW ⊢
   have hbmt : bt ≠ bm := fun e => by subst e; obtain ⟨es, ck, e2, _⟩ := hM; rw [hA] at e2; cases e2
   have hx := (hgW.block _ hlt (fun e => by injection e with e; omega)).trans hx
   have hM : TbAt V9 (bm + 1) bm [] := hM.kept hgW (fun r e => by injection e with e; subst e; exact ⟨hbmt, .inr (fun c fz e2 => by rw [hA] at e2; injection e2 with e2; injection e2 with _ e2; exact absurd e2 (by decide))⟩)
   have hbV : Below w.heap.size w V9 := hb.grown hgW hb.size (fun k e => by injection e with e; omega)
   have hC := hC.kept hgW (hC.ne_block hA (by decide)) (fun g c T fz hg h => ⟨fz, (hgW.block g (Array.getElem?_eq_some_iff.1 h).1 (fun e => by injection e with e; have : g < w.heap.size := hg; omega)).trans h⟩)
   have hb := hbV
   have hA := hA2
   clear c0 c1 f0 f1 hA1 hA2 hgW hbV
   clear hK K
   try simp only [zt,zs,zz,Act.put,zi,zy,zx]
   refine wpAnyH_done (by kernel_rfl) ?_ _
   refine NoPanic.normal ?_
   clear hHeld
   exact REST.out _ _ _ _ _ hb hC hM hbmw hA hbtw hx
  ·skip
   go_simp
   have hbN : Below V_4.heap.size V_4 (V_4.alloc (.cells Z78 78)) := (Below.refl _ _).alloc (Nat.le_refl _) _
   have hA9 : (V_4.alloc (.cells Z78 78)).heap[V_4.heap.size]? = some (Obj.cells Z78 78 (0, 0)) := alloc_at _ _
   have hsN : (V_4.alloc (.cells Z78 78)).heap.size = V_4.heap.size + 1 := by simp
   have hZ9 : V_4.alloc (.cells #[.slice none 0 0, .map none] 78) = V_4.alloc (.cells Z78 78) := rfl
   refine hK.out _ _ trivial (fun hHeld => ?_)
   rw [hZ9]
   clear hZ9
   generalize V_4.alloc (.cells Z78 78) = V_46 at hbN hA9 hsN ⊢
   obtain ⟨bt, hbt⟩ : ∃ m, m = V_4.heap.size := ⟨_, rfl⟩
   have hx : V_46.heap[w.heap.size]? = some (Obj.cells Z78 78 (0, 0)) := (hbN.block _ hlt).trans hx
   have hb : Below w.heap.size w V_46 := hb.trans (hbN.mono (by omega))
   have hM : TbAt V_46 (bm + 1) bm [] := hM.kept (Below.grownRow hbN none) (fun r e => by cases e)
   rw [← hbt] at hA9 ⊢
   have hA := hA9
   have hbtw : w.heap.size < bt := by omega
   have hlt : w.heap.size < V_46.heap.size := by omega
   clear hA9 hbN hsN hbt
   clear hK K
   try simp only [zt,zs,zz,Act.put,zi,zy,zx]
   refine wpAnyH_ready (rs := [1]) (by kernel_rfl) (by simp) ?_
   refine (AllReadyH.cons rfl (fun K hK => ?_) AllReadyH.nil)
   go_simp
   refine (HCL.out V_46 hb).mono ?_
   rintro e V_146 ⟨lv, rfl, hC, hbN⟩
   obtain ⟨lo, lc, rfl⟩ := hC.form
   have hsN := hbN.size
   have hx : V_146.heap[w.heap.size]? = some (Obj.cells Z78 78 (0, 0)) := (hbN.block _ hlt).trans hx
   have hb : Below w.heap.size w V_146 := hb.trans (hbN.mono (by omega))
   have hM : TbAt V_146 (bm + 1) bm [] := hM.kept (Below.grownRow hbN none) (fun r e => by cases e)
   have hA : V_146.heap[bt]? = some (Obj.cells Z78 78 (0, 0)) := (hbN.block _ (Array.getElem?_eq_some_iff.1 hA).1).trans hA
   have hlt : w.heap.size < V_146.heap.size := by omega
   have hC := hC.base (by omega : w.heap.size ≤ V_46.heap.size)
   refine hK.out _ _ trivial (fun hHeld => ?_)
   clear hK K
   try simp only [zt,zs,zz,Act.put,zi,zy,zx]
   refine qtk (i := 5) (v := ?v6) rfl rfl (fun w' hw' => ?h6) hHeld ?r6
   case h6 => go_simp; try with_reducible rfl
   simp only [zt,zs,zz,Act.put,zi,zy,zx]
   refine wpAnyH_ready (rs := [7]) (by kernel_rfl) (by simp) ?_
   refine (AllReadyH.cons rfl (fun K hK => ?_) AllReadyH.nil)
   have c0 : V_146.cell? ⟨bt, 0, none⟩ = some (.slice none 0 0) := by rw [Lib.cell_of_heap hA]; rfl
   have c1 : V_146.cell? ⟨bt, 1, none⟩ = some (.map none) := by rw [Lib.cell_of_heap hA]; rfl
   have f0 : V_146.frozen? ⟨bt, 0, none⟩ = false := by simp [World.frozen?, hA]
   have f1 : V_146.frozen? ⟨bt, 1, none⟩ = false := by simp [World.frozen?, hA]
   go_simp
   have hA1 : (V_146.setCell ⟨bt, 0, none⟩ (.slice lo bs.length lc)).heap[bt]? = some (Obj.cells #[.slice lo bs.length lc, .map none] 78 (0, 0)) := heap_setCell_same V_146 bt 0 Z78 78 _ hA
   have hA2 : ((V_146.setCell ⟨bt, 0, none⟩ (.slice lo bs.length lc)).setCell ⟨bt, 1, none⟩ (.map (some bm))).heap[bt]? = some (Obj.cells #[.slice lo bs.length lc, .map (some bm)] 78 (0, 0)) := heap_setCell_same _ bt 1 _ 78 _ hA1
   have hgW : V_146.grownBy ((V_146.setCell ⟨bt, 0, none⟩ (.slice lo bs.length lc)).setCell ⟨bt, 1, none⟩ (.map (some bm))) (some bt) := two_set V_146 bt _ _
   refine hK.out _ _ trivial (fun hHeld => ?_)
   generalize (V_146.setCell ⟨bt, 0, none⟩ (.slice lo bs.length lc)).setCell ⟨bt, 1, none⟩ (.map (some bm)) = V9 at hA2 hgW ⊢
   have hbmt : bt ≠ bm := fun e => by subst e; obtain ⟨es, ck, e2, _⟩ := hM; rw [hA] at e2; cases e2
   have hx := (hgW.block _ hlt (fun e => by injection e with e; omega)).trans hx
   have hM : TbAt V9 (bm + 1) bm [] := hM.kept hgW (fun r e => by injection e with e; subst e; exact ⟨hbmt, .inr (fun c fz e2 => by rw [hA] at e2; injection e2 with e2; injection e2 with _ e2; exact absurd e2 (by decide))⟩)
   have hbV : Below w.heap.size w V9 := hb.grown hgW hb.size (fun k e => by injection e with e; omega)
   have hC := hC.kept hgW (hC.ne_block hA (by decide)) (fun g c T fz hg h => ⟨fz, (hgW.block g (Array.getElem?_eq_some_iff.1 h).1 (fun e => by injection e with e; have : g < w.heap.size := hg; omega)).trans h⟩)
   have hb := hbV
   have hA := hA2
   clear c0 c1 f0 f1 hA1 hA2 hgW hbV
   clear hK K
   try simp only [zt,zs,zz,Act.put,zi,zy,zx]
   refine wpAnyH_done (by kernel_rfl) ?_ _
   refine NoPanic.normal ?_
   clear hHeld
   exact REST.out _ _ _ _ _ hb hC hM hbmw hA hbtw hx
 ·skip
  go_simp
  have hbN : Below V_.heap.size V_ (V_.alloc (.cells Z78 78)) := (Below.refl _ _).alloc (Nat.le_refl _) _
  have hA9 : (V_.alloc (.cells Z78 78)).heap[V_.heap.size]? = some (Obj.cells Z78 78 (0, 0)) := alloc_at _ _
  have hsN : (V_.alloc (.cells Z78 78)).heap.size = V_.heap.size + 1 := by simp
  have hZ9 : V_.alloc (.cells #[.slice none 0 0, .map none] 78) = V_.alloc (.cells Z78 78) := rfl
  refine hK.out _ _ trivial (fun hHeld => ?_)
  rw [hZ9]
  clear hZ9
  generalize V_.alloc (.cells Z78 78) = V_6 at hbN hA9 hsN ⊢
  obtain ⟨bt, hbt⟩ : ∃ m, m = V_.heap.size := ⟨_, rfl⟩
  have hx : V_6.heap[w.heap.size]? = some (Obj.cells Z78 78 (0, 0)) := (hbN.block _ hlt).trans hx
  have hb : Below w.heap.size w V_6 := hb.trans (hbN.mono (by omega))
  rw [← hbt] at hA9 ⊢
  have hA := hA9
  have hbtw : w.heap.size < bt := by omega
  have hlt : w.heap.size < V_6.heap.size := by omega
  clear hA9 hbN hsN hbt
  clear hK K
  try simp only [zt,zs,zz,Act.put,zi,zy,zx]
  refine wpAnyH_ready (rs := [1, 4]) (by kernel_rfl) (by simp) ?_
  refine (AllReadyH.cons rfl (fun K hK => ?_) (AllReadyH.cons rfl (fun K hK => ?_) AllReadyH.nil))
  ·skip
   go_simp
   refine (HCL.out V_6 hb).mono ?_
   rintro e V_16 ⟨lv, rfl, hC, hbN⟩
   obtain ⟨lo, lc, rfl⟩ := hC.form
   have hsN := hbN.size
   have hx : V_16.heap[w.heap.size]? = some (Obj.cells Z78 78 (0, 0)) := (hbN.block _ hlt).trans hx
   have hb : Below w.heap.size w V_16 := hb.trans (hbN.mono (by omega))
   have hA : V_16.heap[bt]? = some (Obj.cells Z78 78 (0, 0)) := (hbN.block _ (Array.getElem?_eq_some_iff.1 hA).1).trans hA
   have hlt : w.heap.size < V_16.heap.size := by omega
   have hC := hC.base (by omega : w.heap.size ≤ V_6.heap.size)
   refine hK.out _ _ trivial (fun hHeld => ?_)
   clear hK K
   try simp only [zt,zs,zz,Act.put,zi,zy,zx]
   refine wpAnyH_ready (rs := [4]) (by kernel_rfl) (by simp) ?_
   refine (AllReadyH.cons rfl (fun K hK => ?_) AllReadyH.nil)
   go_simp
   have hbN : Below V_16.heap.size V_16 (V_16.alloc (.map #[] 0)) := (Below.refl _ _).alloc (Nat.le_refl _) _
   have hM9 : TbAt (V_16.alloc (.map #[] 0)) (V_16.heap.size + 1) V_16.heap.size [] := TbAt.made _
   have hsN : (V_16.alloc (.map #[] 0)).heap.size = V_16.heap.size + 1 := by simp
   refine hK.out _ _ trivial (fun hHeld => ?_)
   generalize V_16.alloc (.map #[] 0) = V_146 at hbN hM9 hsN ⊢
   obtain ⟨bm, hbm⟩ : ∃ m, m = V_16.heap.size := ⟨_, rfl⟩
   have hx : V_146.heap[w.heap.size]? = some (Obj.cells Z78 78 (0, 0)) := (hbN.block _ hlt).trans hx
   have hb : Below w.heap.size w V_146 := hb.trans (hbN.mono (by omega))
   have hC : OwnPI (fun g => g < w.heap.size) w.heap.size V_146 (.slice lo bs.length lc) bs := hC.below hbN
   have hA : V_146.heap[bt]? = some (Obj.cells Z78 78 (0, 0)) := (hbN.block _ (Array.getElem?_eq_some_iff.1 hA).1).trans hA
   rw [← hbm] at hM9 ⊢
   have hM := hM9
   have hbmw : w.heap.size < bm := by omega
   have hlt : w.heap.size < V_146.heap.size := by omega
   clear hM9 hbN hsN hbm
   clear hK K
   try simp only [zt,zs,zz,Act.put,zi,zy,zx]
   refine qtk (i := 5) (v := ?v7) rfl rfl (fun w' hw' => ?h7) hHeld ?r7
   case h7 => go_simp; try with_reducible rfl
   simp only [zt,zs,zz,Act.put,zi,zy,zx]
   refine wpAnyH_ready (rs := [7]) (by kernel_rfl) (by simp) ?_
   refine (AllReadyH.cons rfl (fun K hK => ?_) AllReadyH.nil)
   have c0 : V_146.cell? ⟨bt, 0, none⟩ = some (.slice none 0 0) := by rw [Lib.cell_of_heap hA]; rfl
   have c1 : V_146.cell? ⟨bt, 1, none⟩ = some (.map none) := by rw [Lib.cell_of_heap hA]; rfl
   have f0 : V_146.frozen? ⟨bt, 0, none⟩ = false := by simp [World.frozen?, hA]
   have f1 : V_146.frozen? ⟨bt, 1, none⟩ = false := by simp [World.frozen?, hA]
   go_simp
   have hA1 : (V_146.setCell ⟨bt, 0, none⟩ (.slice lo bs.length lc)).heap[bt]? = some (Obj.cells #[.slice lo bs.length lc, .map none] 78 (0, 0)) := heap_setCell_same V_146 bt 0 Z78 78 _ hA
   have hA2 : ((V_146.setCell ⟨bt, 0, none⟩ (.slice lo bs.length lc)).setCell ⟨bt, 1, none⟩ (.map (some bm))).heap[bt]? = some (Obj.cells #[.slice lo bs.length lc, .map (some bm)] 78 (0, 0)) := heap_setCell_same _ bt 1 _ 78 _ hA1
   have hgW : V_146.grownBy ((V_146.setCell ⟨bt, 0, none⟩ (.slice lo bs.length lc)).setCell ⟨bt, 1, none⟩ (.map (some bm))) (some bt) := two_set V_146 bt _ _
   refine hK.out _ _ trivial (fun hHeld => ?_)
   generalize (V_146.setCell ⟨bt, 0, none⟩ (.slice lo bs.length lc)).setCell ⟨bt, 1, none⟩ (.map (some bm)) = V9 at hA2 hgW ⊢
   have hbmt : bt ≠ bm := fun e => by subst e; obtain ⟨es, ck, e2, _⟩ := hM; rw [hA] at e2; cases e2
   have hx := (hgW.block _ hlt (fun e => by injection e with e; omega)).trans hx
   have hM : TbAt V9 (bm + 1) bm [] := hM.kept hgW (fun r e => by injection e with e; subst e; exact ⟨hbmt, .inr (fun c fz e2 => by rw [hA] at e2; injection e2 with e2; injection e2 with _ e2; exact absurd e2 (by decide))⟩)
   have hbV : Below w.heap.size w V9 := hb.grown hgW hb.size (fun k e => by injection e with e; omega)
   have hC := hC.kept hgW (hC.ne_block hA (by decide)) (fun g c T fz hg h => ⟨fz, (hgW.block g (Array.getElem?_eq_some_iff.1 h).1 (fun e => by injection e with e; have : g < w.heap.size := hg; omega)).trans h⟩)
   have hb := hbV
   have hA := hA2
   clear c0 c1 f0 f1 hA1 hA2 hgW hbV
   clear hK K
   try simp only [zt,zs,zz,Act.put,zi,zy,zx]
   refine wpAnyH_done (by kernel_rfl) ?_ _
   refine NoPanic.normal ?_
   clear hHeld
   exact REST.out _ _ _ _ _ hb hC hM hbmw hA hbtw hx
  ·skip
   go_simp
   have hbN : Below V_6.heap.size V_6 (V_6.alloc (.map #[] 0)) := (Below.refl _ _).alloc (Nat.le_refl _) _
   have hM9 : TbAt (V_6.alloc (.map #[] 0)) (V_6.heap.size + 1) V_6.heap.size [] := TbAt.made _
   have hsN : (V_6.alloc (.map #[] 0)).heap.size = V_6.heap.size + 1 := by simp
   refine hK.out _ _ trivial (fun hHeld => ?_)
   generalize V_6.alloc (.map #[] 0) = V_46 at hbN hM9 hsN ⊢
   obtain ⟨bm, hbm⟩ : ∃ m, m = V_6.heap.size := ⟨_, rfl⟩
   have hx : V_46.heap[w.heap.size]? = some (Obj.cells Z78 78 (0, 0)) := (hbN.block _ hlt).trans hx
   have hb : Below w.heap.size w V_46 := hb.trans (hbN.mono (by omega))
   have hA : V_46.heap[bt]? = some (Obj.cells Z78 78 (0, 0)) := (hbN.block _ (Array.getElem?_eq_some_iff.1 hA).1).trans hA
   rw [← hbm] at hM9 ⊢
   have hM := hM9
   have hbmw : w.heap.size < bm := by omega
   have hlt : w.heap.size < V_46.heap.size := by omega
   clear hM9 hbN hsN hbm
   clear hK K
   try simp only [zt,zs,zz,Act.put,zi,zy,zx]
   refine wpAnyH_ready (rs := [1]) (by kernel_rfl) (by simp) ?_
   refine (AllReadyH.cons rfl (fun K hK => ?_) AllReadyH.nil)
   go_simp
   refine (HCL.out V_46 hb).mono ?_
   rintro e V_146 ⟨lv, rfl, hC, hbN⟩
   obtain ⟨lo, lc, rfl⟩ := hC.form
   have hsN := hbN.size
   have hx : V_146.heap[w.heap.size]? = some (Obj.cells Z78 78 (0, 0)) := (hbN.block _ hlt).trans hx
   have hb : Below w.heap.size w V_146 := hb.trans (hbN.mono (by omega))
   have hM : TbAt V_146 (bm + 1) bm [] := hM.kept (Below.grownRow hbN none) (fun r e => by cases e)
   have hA : V_146.heap[bt]? = some (Obj.cells Z78 78 (0, 0)) := (hbN.block _ (Array.getElem?_eq_some_iff.1 hA).1).trans hA
   have hlt : w.heap.size < V_146.heap.size := by omega
   have hC := hC.base (by omega : w.heap.size ≤ V_46.heap.size)
   refine hK.out _ _ trivial (fun hHeld => ?_)
   clear hK K
   try simp only [zt,zs,zz,Act.put,zi,zy,zx]
   refine qtk (i := 5) (v := ?v8) rfl rfl (fun w' hw' => ?h8) hHeld ?r8
   case h8 => go_simp; try with_reducible rfl
   simp only [zt,zs,zz,Act.put,zi,zy,zx]
   refine wpAnyH_ready (rs := [7]) (by kernel_rfl) (by simp) ?_
   refine (AllReadyH.cons rfl (fun K hK => ?_) AllReadyH.nil)
   have c0 : V_146.cell? ⟨bt, 0, none⟩ = some (.slice none 0 0) := by rw [Lib.cell_of_heap hA]; rfl
   have c1 : V_146.cell? ⟨bt, 1, none⟩ = some (.map none) := by rw [Lib.cell_of_heap hA]; rfl
   have f0 : V_146.frozen? ⟨bt, 0, none⟩ = false := by simp [World.frozen?, hA]
   have f1 : V_146.frozen? ⟨bt, 1, none⟩ = false := by simp [World.frozen?, hA]
   go_simp
   have hA1 : (V_146.setCell ⟨bt, 0, none⟩ (.slice lo bs.length lc)).heap[bt]? = some (Obj.cells #[.slice lo bs.length lc, .map none] 78 (0, 0)) := heap_setCell_same V_146 bt 0 Z78 78 _ hA
   have hA2 : ((V_146.setCell ⟨bt, 0, none⟩ (.slice lo bs.length lc)).setCell ⟨bt, 1, none⟩ (.map (some bm))).heap[bt]? = some (Obj.cells #[.slice lo bs.length lc, .map (some bm)] 78 (0, 0)) := heap_setCell_same _ bt 1 _ 78 _ hA1
   have hgW : V_146.grownBy ((V_146.setCell ⟨bt, 0, none⟩ (.slice lo bs.length lc)).setCell ⟨bt, 1, none⟩ (.map (some bm))) (some bt) := two_set V_146 bt _ _
   refine hK.out _ _ trivial (fun hHeld => ?_)
   generalize (V_146.setCell ⟨bt, 0, none⟩ (.slice lo bs.length lc)).setCell ⟨bt, 1, none⟩ (.map (some bm)) = V9 at hA2 hgW ⊢
   have hbmt : bt ≠ bm := fun e => by subst e; obtain ⟨es, ck, e2, _⟩ := hM; rw [hA] at e2; cases e2
   have hx := (hgW.block _ hlt (fun e => by injection e with e; omega)).trans hx
   have hM : TbAt V9 (bm + 1) bm [] := hM.kept hgW (fun r e => by injection e with e; subst e; exact ⟨hbmt, .inr (fun c fz e2 => by rw [hA] at e2; injection e2 with e2; injection e2 with _ e2; exact absurd e2 (by decide))⟩)
   have hbV : Below w.heap.size w V9 := hb.grown hgW hb.size (fun k e => by injection e with e; omega)
   have hC := hC.kept hgW (hC.ne_block hA (by decide)) (fun g c T fz hg h => ⟨fz, (hgW.block g (Array.getElem?_eq_some_iff.1 h).1 (fun e => by injection e with e; have : g < w.heap.size := hg; omega)).trans h⟩)
   have hb := hbV
   have hA := hA2
   clear c0 c1 f0 f1 hA1 hA2 hgW hbV
   clear hK K
   try simp only [zt,zs,zz,Act.put,zi,zy,zx]
   refine wpAnyH_done (by kernel_rfl) ?_ _
   refine NoPanic.normal ?_
   clear hHeld
   exact REST.out _ _ _ _ _ hb hC hM hbmw hA hbtw hx

end Go.Proofs.Ytecljchifebljaa
