/- Rows of unknowns; what is known of an old heap, at the start. -/
import Derived.Test.YtjecjlnkpbbanaaK1
namespace Go.Proofs.Ytjecjlnkpbbanaa
open Go Go.RowKit
set_option linter.unusedVariables false
set_option linter.unusedSimpArgs false
def RetU (n : Nat) (w : World) (e : Ending) (w' : World) : Prop :=
  ∃ g, w.heap.size ≤ g ∧ e = .returned (.slice (some ⟨g, 0, none⟩) n n) ∧ IRw w' g (List.replicate n (-1)) ∧ Below w.heap.size w w'
set_option maxHeartbeats 4000000 in
theorem unknowns_any (n : Nat) (hn : n ≤ 1000000) (w : World) : Calls Try.prog 64 #[.int .i64 n] w (RetU n w) := by
  have hc : (w.alloc (.cells #[.int .i64 (-1)] 3)).cell? ⟨w.heap.size, 0, none⟩ = some (.int .i64 (-1)) := by
    rw [cell_of_row _ _ 0 _ _ _ (alloc_at w _)]; rfl
  have F := Lib.hid (repeat_any (w.alloc (.cells #[.int .i64 (-1)] 3)) w.heap.size (-1) 1 n hn hc)
  have HB : Hid (Below w.heap.size w (w.alloc (.cells #[.int .i64 (-1)] 3))) := (Below.refl _ _).alloc (Nat.le_refl _) _
  have hsz : w.heap.size ≤ (w.alloc (.cells #[.int .i64 (-1)] 3)).heap.size := HB.out.size
  clear hc
  generalize (w.alloc (.cells #[.int .i64 (-1)] 3)).heap.size = g9 at hsz F
  go_enter Try.func64, Try.ntmps64
  go_wp2_with fail
  refine F.out.mono ?_
  rintro e w1 ⟨rfl, h1, h2⟩
  have H1 := Lib.hid h1
  have H2 := Lib.hid (HB.out.trans (h2.mono hsz))
  clear F h1 h2
  go_wp2_with fail
  go_ret
  exact ⟨_, hsz, rfl, H1.out, H2.out⟩
def pval : Option Nat → Value
  | none => .slice none 0 0
  | some q => .slice (some ⟨q, 0, none⟩) 21 21
def pvals (l : List (Option Nat)) : Array Value := (l.map pval).toArray
def PRw (w : World) (g : Nat) (l : List (Option Nat)) : Prop := w.heap[g]? = some (.cells (pvals l) 22 (0, 0))
theorem pvals_set (l : List (Option Nat)) (j : Nat) (q : Option Nat) : (pvals l).setIfInBounds j (pval q) = pvals (l.set j q) := by
  unfold pvals; rw [List.setIfInBounds_toArray, List.map_set]
theorem PRw.put {w : World} {g : Nat} {l : List (Option Nat)} (h : PRw w g l) (j : Nat) (q : Option Nat) : PRw (w.setCell ⟨g, j, none⟩ (pval q)) g (l.set j q) := by
  have := heap_setCell_same w g j _ 22 (pval q) h
  rw [pvals_set] at this
  exact this
theorem PRw.cell {w : World} {g : Nat} {l : List (Option Nat)} (h : PRw w g l) (j : Nat) (hj : j < l.length) : w.cell? ⟨g, j, none⟩ = some (pval l[j]) := by
  rw [cell_of_row w g j _ _ _ h]
  unfold pvals
  rw [List.getElem?_toArray, List.getElem?_map, List.getElem?_eq_getElem hj]; rfl
theorem infoS22 : (Try.prog.info? 22).map (fun i => (i.zero, i.size, i.bytes)) = some (some (.slice none 0 0), 1, 24) := by kernel_rfl
theorem made_pvals (n : Nat) : madeCells (Value.slice none 0 0).cells n = pvals (List.replicate n none) := by
  apply Array.ext
  · rw [size_madeCells]; simp [pvals, Value.cells]
  · intro i h1 h2
    simp [madeCells, pvals, pval, Value.cells, Nat.mod_one]
theorem run_make_rows (n : Nat) (hn : n ≤ 1000000) (w : World) :
    (Instr.makeSlice 30 (.int .i64 n) (.int .i64 n)).run Try.prog w = .ok (.slice (some ⟨w.heap.size, 0, none⟩) n n) (w.alloc (.cells (pvals (List.replicate n none)) 22)) := by
  obtain ⟨i, hi, hz, h1, h2⟩ := info_parts infoS22
  have := run_make (P := Try.prog) w 30 22 i (.slice none 0 0) Try.underlying30 hi hz .i64 .i64 n n (by omega) (Int.le_refl _) (by rw [h2]; omega) (by omega)
  rw [h1, Nat.mul_one, made_pvals, Int.toNat_natCast] at this
  exact this
/-- What newOld brings: two rows, new. -/
def RetO (b U : Nat) (w : World) (e : Ending) (w' : World) : Prop :=
  ∃ eb pb, w.heap.size ≤ eb ∧ w.heap.size ≤ pb ∧ eb ≠ pb ∧ e = .returned (.agg #[.pointer (some ⟨b, 0, none⟩), .slice (some ⟨eb, 0, none⟩) U U, .slice (some ⟨pb, 0, none⟩) U U]) ∧
    IRw w' eb (List.replicate U (-1)) ∧ PRw w' pb (List.replicate U none) ∧ Below w.heap.size w w'
set_option maxHeartbeats 8000000 in
set_option maxRecDepth 100000 in
theorem newOld_any {w : World} {b : Nat} {G : Option Nat} {os : List Ob} {m : Nat} (h : HpO w b G os m) : Calls Try.prog 63 #[.pointer (some ⟨b, 0, none⟩)] w (RetO b (total os) w) := by
  have hU : (wds os).length = total os := wds_length os
  have hm : total os ≤ 1000000 := by have := h.2.2.2.2; have := h.2.2.2.1; omega
  have F20 := Lib.hid (fun W (hb : Below w.heap.size w W) => used_any (h.below hb).1)
  rw [hU] at F20
  have F64 := Lib.hid (fun W => unknowns_any (total os) hm W)
  generalize total os = U at hm F20 F64 ⊢
  have HMK := Lib.hid (fun W => run_make_rows U hm W)
  clear hU
  have HB0 : Hid (Below w.heap.size w (w.alloc (.cells #[.pointer none, .slice none 0 0, .slice none 0 0] 59))) := (Below.refl _ _).alloc (Nat.le_refl _) _
  have hA : (w.alloc (.cells #[.pointer none, .slice none 0 0, .slice none 0 0] 59)).heap[w.heap.size]? = some (.cells #[.pointer none, .slice none 0 0, .slice none 0 0] 59 (0, 0)) := alloc_at w _
  have hs0 : w.heap.size < (w.alloc (.cells #[.pointer none, .slice none 0 0, .slice none 0 0] 59)).heap.size := by simp
  go_enter Try.func63, Try.ntmps63
  go_wp2_with fail
  generalize w.alloc (.cells #[.pointer none, .slice none 0 0, .slice none 0 0] 59) = W0 at HB0 hA hs0 ⊢
  obtain ⟨g, hg⟩ : ∃ g, g = w.heap.size := ⟨_, rfl⟩
  rw [← hg] at hA hs0 ⊢
  have HG := Lib.hid hg
  clear hg
  have HA := Lib.hid hA
  clear hA
  refine (F20.out _ HB0.out).mono ?_
  rintro e w1 ⟨rfl, rfl⟩
  go_wp2_with fail
  refine (F64.out _).mono ?_
  rintro e w2 ⟨eb, heb, rfl, h1, h2⟩
  have H1 := Lib.hid h1
  have HB2 := Lib.hid (HB0.out.trans (h2.mono (by have := HG.out; omega)))
  have hA2 := (h2.block g hs0).trans HA.out
  have hs2 := h2.size
  clear h1 h2 F64 HA HB0
  go_wp2_with fail
  refine (F20.out _ HB2.out).mono ?_
  rintro e w3 ⟨rfl, rfl⟩
  have hmk := HMK.out w2
  have HP : Hid (PRw (w2.alloc (.cells (pvals (List.replicate U none)) 22)) w2.heap.size (List.replicate U none)) := alloc_at w2 _
  have HB3 : Hid (Below w2.heap.size w2 (w2.alloc (.cells (pvals (List.replicate U none)) 22))) := (Below.refl _ _).alloc (Nat.le_refl _) _
  have HI3 : Hid (IRw (w2.alloc (.cells (pvals (List.replicate U none)) 22)) eb (List.replicate U (-1))) := (HB3.out.block _ H1.out.lt).trans H1.out
  have hA3 := (HB3.out.block g (by omega)).trans hA2
  have hei := H1.out.lt
  generalize w2.alloc (.cells (pvals (List.replicate U none)) 22) = W3 at hmk HP HB3 HI3 hA3
  generalize hpb : w2.heap.size = pb at *
  clear hA2 H1 F20 HMK
  have c0 : W3.cell? ⟨g, 0, none⟩ = some (.pointer none) := by rw [cell_of_row _ _ 0 _ _ _ hA3]; rfl
  have c1 : W3.cell? ⟨g, 1, none⟩ = some (.slice none 0 0) := by rw [cell_of_row _ _ 1 _ _ _ hA3]; rfl
  have c2 : W3.cell? ⟨g, 2, none⟩ = some (.slice none 0 0) := by rw [cell_of_row _ _ 2 _ _ _ hA3]; rfl
  have f0 := frozen_of_row W3 g 0 _ _ hA3
  have f1 := frozen_of_row W3 g 1 _ _ hA3
  have f2 := frozen_of_row W3 g 2 _ _ hA3
  have hge : w.heap.size ≤ eb := by have := HG.out; omega
  have hgp : w.heap.size ≤ pb := by have := HB2.out.size; omega
  have HBF : Hid (Below w.heap.size w W3) := HB2.out.trans (HB3.out.mono hgp)
  have hgl : w.heap.size ≤ g := by have := HG.out; omega
  have hge2 : g ≠ eb := by omega
  have hgp2 : g ≠ pb := by omega
  have k1 := heap_setCell_same W3 g 0 _ 59 (.pointer (some ⟨b, 0, none⟩)) hA3
  have k2 := heap_setCell_same _ g 1 _ 59 (.slice (some ⟨eb, 0, none⟩) U U) k1
  have k3 := heap_setCell_same _ g 2 _ 59 (.slice (some ⟨pb, 0, none⟩) U U) k2
  have HIE : Hid (IRw (((W3.setCell ⟨g, 0, none⟩ (.pointer (some ⟨b, 0, none⟩))).setCell ⟨g, 1, none⟩ (.slice (some ⟨eb, 0, none⟩) U U)).setCell ⟨g, 2, none⟩ (.slice (some ⟨pb, 0, none⟩) U U)) eb (List.replicate U (-1))) := by
    show _ = _
    rw [Below.heap_setCell _ _ _ _ hge2.symm, Below.heap_setCell _ _ _ _ hge2.symm, Below.heap_setCell _ _ _ _ hge2.symm]; exact HI3.out
  have HIP : Hid (PRw (((W3.setCell ⟨g, 0, none⟩ (.pointer (some ⟨b, 0, none⟩))).setCell ⟨g, 1, none⟩ (.slice (some ⟨eb, 0, none⟩) U U)).setCell ⟨g, 2, none⟩ (.slice (some ⟨pb, 0, none⟩) U U)) pb (List.replicate U none)) := by
    show _ = _
    rw [Below.heap_setCell _ _ _ _ hgp2.symm, Below.heap_setCell _ _ _ _ hgp2.symm, Below.heap_setCell _ _ _ _ hgp2.symm]; exact HP.out
  have HBW : Hid (Below w.heap.size w (((W3.setCell ⟨g, 0, none⟩ (.pointer (some ⟨b, 0, none⟩))).setCell ⟨g, 1, none⟩ (.slice (some ⟨eb, 0, none⟩) U U)).setCell ⟨g, 2, none⟩ (.slice (some ⟨pb, 0, none⟩) U U))) :=
    ((HBF.out.setCell (p := ⟨g, 0, none⟩) hgl _).setCell (p := ⟨g, 1, none⟩) hgl _).setCell (p := ⟨g, 2, none⟩) hgl _
  clear hA3 k1 k2
  have K3 := Lib.hid k3
  clear k3
  go_wp2_with fail
  generalize ((W3.setCell ⟨g, 0, none⟩ (.pointer (some ⟨b, 0, none⟩))).setCell ⟨g, 1, none⟩ (.slice (some ⟨eb, 0, none⟩) U U)).setCell ⟨g, 2, none⟩ (.slice (some ⟨pb, 0, none⟩) U U) = W5 at K3 HIE HIP HBW ⊢
  clear c0 c1 c2 f0 f1 f2 hmk
  have d0 : W5.cell? ⟨g, 0, none⟩ = some (.pointer (some ⟨b, 0, none⟩)) := by rw [cell_of_row _ _ 0 _ _ _ K3.out]; rfl
  have d1 : W5.cell? ⟨g, 1, none⟩ = some (.slice (some ⟨eb, 0, none⟩) U U) := by rw [cell_of_row _ _ 1 _ _ _ K3.out]; rfl
  have d2 : W5.cell? ⟨g, 2, none⟩ = some (.slice (some ⟨pb, 0, none⟩) U U) := by rw [cell_of_row _ _ 2 _ _ _ K3.out]; rfl
  refine ⟨rfl, .agg #[.pointer (some ⟨b, 0, none⟩), .slice (some ⟨eb, 0, none⟩) U U, .slice (some ⟨pb, 0, none⟩) U U], by simp [results, Try.f63, go_sem, d0, d1, d2], (show RetO _ _ _ _ _ from ⟨eb, pb, hge, hgp, by omega, rfl, HIE.out, HIP.out, HBW.out⟩)⟩
theorem e2' {B k : Nat} {w w' : World} (h : Below B w w') (hk : k < B) : w'.heap[k]? = w.heap[k]? := h.block k hk
/-- What newCopier brings. -/
structure New (b m U dp : Nat) (w : World) (c eb pb b2 kb : Nat) (w' : World) : Prop where
  cell : w'.heap[c]? = some (.cells #[.pointer (some ⟨b, 0, none⟩), .slice (some ⟨eb, 0, none⟩) U U, .slice (some ⟨pb, 0, none⟩) U U, .int .i64 dp, .pointer (some ⟨b2, 0, none⟩), .slice (some ⟨kb, 0, none⟩) U U, .slice none 0 0] 61 (0, 0))
  e : IRw w' eb (List.replicate U (-1))
  p : PRw w' pb (List.replicate U none)
  k : IRw w' kb (List.replicate U (-1))
  h : HpO w' b2 none [] m
  bel : Below w.heap.size w w'
  le : w.heap.size ≤ eb ∧ w.heap.size ≤ pb ∧ w.heap.size ≤ b2 ∧ w.heap.size ≤ kb ∧ w.heap.size ≤ c
  ne : eb ≠ pb ∧ eb < b2 ∧ pb < b2 ∧ b2 < kb ∧ kb < c
set_option maxHeartbeats 8000000 in
set_option maxRecDepth 100000 in
theorem newCopier_any {w : World} {b : Nat} {G : Option Nat} {os : List Ob} {m : Nat} (h : HpO w b G os m) (dp : Nat) : Calls Try.prog 34 #[.pointer (some ⟨b, 0, none⟩), .int .i64 dp] w
    fun e w' => ∃ c eb pb b2 kb, e = .returned (.pointer (some ⟨c, 0, none⟩)) ∧ New b m (total os) dp w c eb pb b2 kb w' := by
  have hU : (wds os).length = total os := wds_length os
  have hm : total os ≤ 1000000 := by have := h.2.2.2.2; have := h.2.2.2.1; omega
  have hm1 := h.2.2.2.1
  have F20 := Lib.hid (fun W (hb : Below w.heap.size w W) => used_any (h.below hb).1)
  have F26 := Lib.hid (fun W (hb : Below w.heap.size w W) => words_any (h.below hb).1)
  have F27 := Lib.hid (fun W => new_any m (by omega) (by omega) W)
  rw [hU] at F20
  have F63 := Lib.hid (newOld_any h)
  have F64 := Lib.hid (fun W => unknowns_any (total os) hm W)
  generalize total os = U at hm F20 F64 F63 ⊢
  clear hU
  go_enter Try.func34, Try.ntmps34
  go_wp2_with fail
  refine F63.out.mono ?_
  rintro e w1 ⟨eb, pb, hge, hgp, hne, rfl, he, hp, hb1⟩
  have HB1 := Lib.hid hb1
  have HE1 := Lib.hid he
  have HP1 := Lib.hid hp
  have hel := he.lt
  have hpl : pb < w1.heap.size := (Array.getElem?_eq_some_iff.1 hp).1
  clear F63 hb1 he hp
  go_wp2_with fail
  refine (F26.out _ HB1.out).mono ?_
  rintro e w2 ⟨rfl, rfl⟩
  clear F26
  go_wp2_with fail
  refine (F27.out _).mono ?_
  rintro e w2 ⟨rfl, hw2⟩
  have HB2 : Hid (Below w1.heap.size w1 w2) := by rw [hw2]; exact (Below.refl _ _).alloc (Nat.le_refl _) _
  have HH : Hid (HL w w2 w1.heap.size none [] m) := by rw [hw2]; exact HL.new HB1.out m hm1
  have hs2 : w1.heap.size < w2.heap.size := by rw [hw2]; simp
  clear hw2 F27
  obtain ⟨b2, hb2⟩ : ∃ b2, b2 = w1.heap.size := ⟨_, rfl⟩
  rw [← hb2] at HH hs2 HB2 hel hpl ⊢
  have HBQ := Lib.hid hb2
  clear hb2
  go_wp2_with fail
  refine (F20.out _ HH.out.bel).mono ?_
  rintro e w3 ⟨rfl, rfl⟩
  clear F20
  go_wp2_with fail
  refine (F64.out _).mono ?_
  rintro e w3 ⟨kb, hkb, rfl, hk, hb3⟩
  have HB3 := Lib.hid hb3
  have HK := Lib.hid hk
  have hkl := hk.lt
  clear hb3 hk F64
  have HBX : Hid (Below w3.heap.size w3 (w3.alloc (.cells #[.pointer (some ⟨b, 0, none⟩), .slice (some ⟨eb, 0, none⟩) U U, .slice (some ⟨pb, 0, none⟩) U U, .int .i64 dp, .pointer (some ⟨b2, 0, none⟩), .slice (some ⟨kb, 0, none⟩) U U, .slice none 0 0] 61))) := (Below.refl _ _).alloc (Nat.le_refl _) _
  have HAT := Lib.hid (alloc_at w3 (.cells #[.pointer (some ⟨b, 0, none⟩), .slice (some ⟨eb, 0, none⟩) U U, .slice (some ⟨pb, 0, none⟩) U U, .int .i64 dp, .pointer (some ⟨b2, 0, none⟩), .slice (some ⟨kb, 0, none⟩) U U, .slice none 0 0] 61))
  go_wp2_with fail
  go_ret
  have e1 := HB2.out
  have e3 := HB3.out
  have eq := HBQ.out
  have es1 := HB1.out.size
  have es3 := e3.size
  refine ⟨w3.heap.size, eb, pb, b2, kb, rfl, HAT.out, ?_, ?_, ?_, ?_, ?_, ⟨hge, hgp, by omega, by omega, by omega⟩, ⟨hne, hel, hpl, by omega, hkl⟩⟩
  · exact ((HBX.out.block _ (by omega)).trans ((e3.block _ (by omega)).trans (e2' e1 hel))).trans HE1.out
  · exact ((HBX.out.block _ (by omega)).trans ((e3.block _ (by omega)).trans (e2' e1 hpl))).trans HP1.out
  · exact (HBX.out.block _ hkl).trans HK.out
  · exact ((HH.out.below e3).below HBX.out).hp
  · exact ((HH.out.below e3).below HBX.out).bel
end Go.Proofs.Ytjecjlnkpbbanaa
