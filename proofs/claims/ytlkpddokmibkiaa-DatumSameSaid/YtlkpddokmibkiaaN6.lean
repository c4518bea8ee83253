/- The walk of DatumSame. -/
import Derived.Test.YtlkpddokmibkiaaN4
import Derived.Test.YtlkpddokmibkiaaC7
namespace Go.Proofs.Ytlkpddokmibkiaa
open Go.RowKit
set_option linter.unusedVariables false
set_option linter.unusedSimpArgs false

theorem But.below6 {g : Nat} {w0 w1 w2 : World} (h : Below w0.heap.size w0 w1) (hb : But w1.heap.size g w1 w2) (hg : w0.heap.size ≤ g) : Below w0.heap.size w0 w2 :=
  ⟨hb.os.trans h.os, hb.tape.trans h.tape, hb.output.trans h.output, Nat.le_trans h.size hb.size, fun k hk => (hb.block k (by have := h.size; omega) (by omega)).trans (h.block k hk)⟩
theorem made_small6 (l : List Rw) (hc : Rw.cnts l ≤ 60) : (Dt.mk 4 ⟨#[]⟩ [] (Rw.makes l) 0).size ≤ 61 := by
  have h0 := makes_size l
  simp only [Dt.size]; omega
theorem mksAt_four (ns : List Int) (p : Nat) : mksAt ns 4 p = [] := by simp [mksAt]
theorem mark_eq6 : True ↔ True := Iff.rfl
theorem Sg.nothing (g : Nat) (w : World) : Sg g w none 0 0 [] := ⟨rfl, fun j h => by simp at h, .inl ⟨rfl, rfl, rfl⟩⟩

set_option maxHeartbeats 8000000 in
theorem same_walk (l : List Rw) (ao : Option Addr) (ac : Nat) (bo : Option Addr) (bl bc : Nat) (zs : List Int) (which n : Int) (w : World) (hR : RsAt w ao l) (hN : IsRow .i64 w bo bl bc zs) (hw : I64 which) (hn : I64 n) :
    Calls Try.prog 4 #[.slice ao l.length ac, .slice bo bl bc, .int .i64 which, .int .i64 n] w fun e w' => e = .returned (.bool true) ∧ Below w.heap.size w w' := by
  have HR := Lib.hid hR
  have HN := Lib.hid hN
  have HW := Lib.hid hw
  have HNN := Lib.hid hn
  clear hR hN hw hn
  go_enter Try.func4, Try.ntmps4
  go_wp2_with fail
  refine (known_any _).mono ?_
  rintro e w0 ⟨rfl, hb0⟩
  have B0 := Lib.hid hb0
  have R0 := Lib.hid (HR.out.below hb0)
  clear hb0
  go_wp2_with fail
  refine (few_any l ao ac w0 R0.out).mono ?_
  rintro e w' ⟨r, rfl, hfew, rfl⟩
  cases r with
  | false =>
    clear hfew
    go_wp2
    go_ret
    exact ⟨rfl, B0.out⟩
  | true =>
  have HC := Lib.hid (hfew rfl)
  clear hfew
  go_wp2_with fail
  obtain ⟨LA, hLA⟩ : ∃ L, L = Dt.marksAll (zs.take bl) (Rw.makes l) (0 + 1) := ⟨_, rfl⟩
  obtain ⟨LB, hLB⟩ : ∃ L, L = Dt.marksAll [] (Rw.makes l) (500 + 1) := ⟨_, rfl⟩
  have hPB : Dt.sames (Dt.plains LA) LB = true := by rw [hLA, hLB]; exact marks_plain_sames _ _ _ _
  have zs0 := made_small6 l HC.out
  have hLAs : Dt.sizes LA ≤ 60 := by rw [hLA, marksAll_sizes]; simp only [Dt.size] at zs0; omega
  have hLBs : Dt.sizes LB ≤ 60 := by rw [hLB, marksAll_sizes]; simp only [Dt.size] at zs0; omega
  have HLA := Lib.hid hLA
  have HLB := Lib.hid hLB
  have HPB := Lib.hid hPB
  have ZSM := Lib.hid zs0
  clear hLA hLB hPB zs0
  have hbc : Below w0.heap.size w0 ((w0.alloc (.cells #[.int .i64 0] 3)).alloc (.cells #[.int .i64 500] 3)) := ((Below.refl _ _).alloc (Nat.le_refl _) _).alloc (by simp) _
  have G1C : ((w0.alloc (.cells #[.int .i64 0] 3)).alloc (.cells #[.int .i64 500] 3)).heap[w0.heap.size]? = some (.cells #[.int .i64 0] 3 (0, 0)) := (Lib.alloc_old _ _ _ (by simp)).trans (alloc_at w0 _)
  have G2C : ((w0.alloc (.cells #[.int .i64 0] 3)).alloc (.cells #[.int .i64 500] 3)).heap[w0.heap.size + 1]? = some (.cells #[.int .i64 500] 3 (0, 0)) := by
    have h := alloc_at (w0.alloc (.cells #[.int .i64 0] 3)) (.cells #[.int .i64 500] 3)
    have e : (w0.alloc (.cells #[.int .i64 0] 3)).heap.size = w0.heap.size + 1 := by simp
    rw [e] at h; exact h
  have hsc : ((w0.alloc (.cells #[.int .i64 0] 3)).alloc (.cells #[.int .i64 500] 3)).heap.size = w0.heap.size + 1 + 1 := by simp
  generalize (w0.alloc (.cells #[.int .i64 0] 3)).alloc (.cells #[.int .i64 500] 3) = WC at hbc G1C G2C hsc ⊢
  obtain ⟨g2, hg2⟩ : ∃ g, g = w0.heap.size + 1 := ⟨_, rfl⟩
  rw [← hg2] at G2C ⊢
  obtain ⟨g1, hg1⟩ : ∃ g, g = w0.heap.size := ⟨_, rfl⟩
  rw [← hg1] at G1C ⊢
  have hwg : w.heap.size ≤ g1 := by have := B0.out.size; omega
  have hw0g : w0.heap.size ≤ g1 := by omega
  have h12 : g1 < g2 := by omega
  have HLWC : g2 < WC.heap.size := by omega
  clear hg1 hg2 hsc
  have BWWC : Hid (Below w0.heap.size w0 WC) := hbc
  have GGWC : Hid (WC.heap[g1]? = some (.cells #[.int .i64 (0 : Nat)] 3 (0, 0))) := G1C
  have OGWC : Hid (WC.heap[g2]? = some (.cells #[.int .i64 (500 : Nat)] 3 (0, 0))) := G2C
  clear hbc G1C G2C
  have hlsa := HLWC
  refine (all_any l (by have := HC.out; omega) ao ac WC (R0.out.below BWWC.out)).mono ?_
  rintro e w1a ⟨dv, rfl, hown, hb1⟩
  have hs1 := hb1.size
  have gg1 : w1a.heap[g1]? = some (.cells #[.int .i64 (0 : Nat)] 3 (0, 0)) := by rw [hb1.block _ (by omega)]; exact GGWC.out
  have og1 : w1a.heap[g2]? = some (.cells #[.int .i64 (500 : Nat)] 3 (0, 0)) := by rw [hb1.block _ (by omega)]; exact OGWC.out
  have BW1 : Below w0.heap.size w0 w1a := BWWC.out.trans (hb1.mono BWWC.out.size)
  have sg1 := ((Sg.of_row HN.out (g := g1) (by omega)).but (But.of B0.out)).but (But.of BW1)
  obtain ⟨dao, dcap, rfl⟩ := hown.at.form
  obtain ⟨dn, hdn⟩ : ∃ dn, dn = (Rw.makes l).length := ⟨_, rfl⟩
  rw [← hdn] at hown ⊢
  clear hdn
  have hat := list_at2 hown.at
  have hat' := Dt.At.mono (T := fun b => b ≠ g1) (fun b (hb : WC.heap.size ≤ b) => by omega) _ _ hat
  have zs1 := ZSM.out
  have F0 := Lib.hid (mark_any 1000000 (Nat.le_refl _) (.mk 4 ⟨#[]⟩ [] (Rw.makes l) 0) (by omega) (zs.take bl) g1 0 _ bo bl bc w1a hat' sg1 gg1 (by omega))
  have o1 := hown.at.one
  have BW1H := Lib.hid BW1
  have OG1 := Lib.hid og1
  have GL1 : g2 < w1a.heap.size := by omega
  clear hown hb1 hat hat' sg1 gg1 og1 BW1 hs1 zs1
  go_wp2_with fail
  refine F0.out.mono ?_
  rintro e w2a ⟨ca, rfl, hat, hb2, hg2⟩
  rw [mark_TC, ← HLA.out] at hat
  change Dt.At _ _ (TC LA 0) _ at hat
  unfold TC at hat
  rw [At_mk] at hat
  obtain ⟨mva, lva, rfl, hma, hla⟩ := hat
  have o3a := hma.one
  have o4a := hla.one
  obtain ⟨qa, hqa⟩ : ∃ q, q = (Dt.mk 4 ⟨#[]⟩ [] (Rw.makes l) 0).next (zs.take bl) 0 := ⟨_, rfl⟩
  rw [← hqa] at hg2
  clear hqa
  have hs2 := hb2.size
  have og2 : w2a.heap[g2]? = some (.cells #[.int .i64 (500 : Nat)] 3 (0, 0)) := by rw [hb2.block _ (by omega) (by omega)]; exact OG1.out
  have BW2 : Below w0.heap.size w0 w2a := But.below6 BW1H.out hb2 (by omega)
  have GL2 : g2 < w2a.heap.size := by omega
  have hma := MAt.mono (T := fun x => g2 < x) hma (fun x hx => by have : w1a.heap.size ≤ x := hx; omega)
  have hla := LAt.mono (T := fun x => g2 < x) hla (fun x hx => by have : w1a.heap.size ≤ x := hx; omega)
  clear F0 hb2 hs2
  have z1 : (#[.int .i64 4, .string ⟨#[]⟩, mva, lva, .int .i64 0] : Array Value).all (·.oneCell') = true := by simp [Value.oneCell'] at o3a o4a ⊢; exact ⟨o3a, o4a⟩
  go_upto_region 7 with (refine wpList_store_row rfl 28 _ _ rfl w2a.heap.size #[.int .i64 4, .string ⟨#[]⟩, mva, lva, .int .i64 0] rfl rfl 28 Z5 (alloc_at _ _) info28 rfl z1 ?_)
  try simp only [Act.put]
  try rw [show (w2a.alloc (.cells #[.int .i64 0, .string ⟨#[]⟩, .slice none 0 0, .slice none 0 0, .int .i64 0] 28)).setRow w2a.heap.size #[.int .i64 4, .string ⟨#[]⟩, mva, lva, .int .i64 0] = w2a.alloc (.cells #[.int .i64 4, .string ⟨#[]⟩, mva, lva, .int .i64 0] 28) from setRow_new _ _ _ _]
  clear z1
  have b3 : Below w2a.heap.size w2a (w2a.alloc (.cells #[.int .i64 4, .string ⟨#[]⟩, mva, lva, .int .i64 0] 28)) := (Below.refl _ _).alloc (Nat.le_refl _) _
  have Pa : Hid (Pk g2 (w2a.alloc (.cells #[.int .i64 4, .string ⟨#[]⟩, mva, lva, .int .i64 0] 28)) w2a.heap.size #[.int .i64 4, .string ⟨#[]⟩, mva, lva, .int .i64 0] (TC LA 0)) := ⟨alloc_at _ _, (At_mk _ _ _ _ _ _ _ _).2 ⟨_, _, rfl, hma.keeps (Keeps.of_below b3), hla.keeps (Keeps.of_below b3)⟩, GL2⟩
  have BWW3 := Lib.hid (BW2.trans (b3.mono BW2.size))
  have GW3 : (w2a.alloc (.cells #[.int .i64 4, .string ⟨#[]⟩, mva, lva, .int .i64 0] 28)).heap[g1]? = some (.cells #[.int .i64 (qa : Nat)] 3 (0, 0)) := by rw [b3.block _ (by omega)]; exact hg2
  have OW3 : (w2a.alloc (.cells #[.int .i64 4, .string ⟨#[]⟩, mva, lva, .int .i64 0] 28)).heap[g2]? = some (.cells #[.int .i64 (500 : Nat)] 3 (0, 0)) := by rw [b3.block _ (by omega)]; exact og2
  have HLW3 : g2 < (w2a.alloc (.cells #[.int .i64 4, .string ⟨#[]⟩, mva, lva, .int .i64 0] 28)).heap.size := Nat.lt_of_lt_of_le GL2 b3.size
  clear b3 hg2 og2 BW2 GL2 hma hla BW1H OG1 GL1
  obtain ⟨ablk, hablk⟩ : ∃ x, x = w2a.heap.size := ⟨_, rfl⟩
  generalize w2a.alloc (.cells #[.int .i64 4, .string ⟨#[]⟩, mva, lva, .int .i64 0] 28) = W3 at Pa BWW3 GW3 OW3 HLW3  ⊢
  rw [← hablk] at Pa ⊢
  clear hablk
  have GGW3 := Lib.hid OW3
  have OGW3 := Lib.hid GW3
  clear OW3 GW3
  go_wp2_with fail
  have hlsb := HLW3
  refine (all_any l (by have := HC.out; omega) ao ac W3 (R0.out.below BWW3.out)).mono ?_
  rintro e w1b ⟨dv, rfl, hown, hb1⟩
  have hs1 := hb1.size
  have gg1 : w1b.heap[g2]? = some (.cells #[.int .i64 (500 : Nat)] 3 (0, 0)) := by rw [hb1.block _ (by omega)]; exact GGW3.out
  have og1 : w1b.heap[g1]? = some (.cells #[.int .i64 (qa : Nat)] 3 (0, 0)) := by rw [hb1.block _ (by omega)]; exact OGW3.out
  have BW1 : Below w0.heap.size w0 w1b := BWW3.out.trans (hb1.mono BWW3.out.size)
  have sg1 := Sg.nothing g2 w1b
  obtain ⟨dao, dcap, rfl⟩ := hown.at.form
  obtain ⟨dn, hdn⟩ : ∃ dn, dn = (Rw.makes l).length := ⟨_, rfl⟩
  rw [← hdn] at hown ⊢
  clear hdn
  have hat := list_at2 hown.at
  have hat' := Dt.At.mono (T := fun b => b ≠ g2) (fun b (hb : W3.heap.size ≤ b) => by omega) _ _ hat
  have zs1 := ZSM.out
  have F0 := Lib.hid (mark_any 1000000 (Nat.le_refl _) (.mk 4 ⟨#[]⟩ [] (Rw.makes l) 0) (by omega) [] g2 500 _ none 0 0 w1b hat' sg1 gg1 (by omega))
  have o1 := hown.at.one
  have Pa1 := Lib.hid (Pa.out.below hb1)
  have BW1H := Lib.hid BW1
  have OG1 := Lib.hid og1
  have GL1 : g2 < w1b.heap.size := by omega
  clear hown hb1 hat hat' sg1 gg1 og1 BW1 hs1 zs1
  go_wp2_with fail
  refine F0.out.mono ?_
  rintro e w2b ⟨ca, rfl, hat, hb2, hg2⟩
  rw [mark_TC, ← HLB.out] at hat
  change Dt.At _ _ (TC LB 500) _ at hat
  unfold TC at hat
  rw [At_mk] at hat
  obtain ⟨mvb, lvb, rfl, hmb, hlb⟩ := hat
  have o3b := hmb.one
  have o4b := hlb.one
  obtain ⟨qb, hqb⟩ : ∃ q, q = (Dt.mk 4 ⟨#[]⟩ [] (Rw.makes l) 0).next [] 500 := ⟨_, rfl⟩
  rw [← hqb] at hg2
  clear hqb
  have hs2 := hb2.size
  have og2 : w2b.heap[g1]? = some (.cells #[.int .i64 (qa : Nat)] 3 (0, 0)) := by rw [hb2.block _ (by omega) (by omega)]; exact OG1.out
  have BW2 : Below w0.heap.size w0 w2b := But.below6 BW1H.out hb2 (by omega)
  have GL2 : g2 < w2b.heap.size := by omega
  have hmb := MAt.mono (T := fun x => g2 < x) hmb (fun x hx => by have : w1b.heap.size ≤ x := hx; omega)
  have hlb := LAt.mono (T := fun x => g2 < x) hlb (fun x hx => by have : w1b.heap.size ≤ x := hx; omega)
  have Pa2 := Lib.hid (Pa1.out.but hb2 (by omega))
  clear F0 hb2 hs2
  have z1 : (#[.int .i64 4, .string ⟨#[]⟩, mvb, lvb, .int .i64 500] : Array Value).all (·.oneCell') = true := by simp [Value.oneCell'] at o3b o4b ⊢; exact ⟨o3b, o4b⟩
  go_upto_region 8 with (refine wpList_store_row rfl 28 _ _ rfl w2b.heap.size #[.int .i64 4, .string ⟨#[]⟩, mvb, lvb, .int .i64 500] rfl rfl 28 Z5 (alloc_at _ _) info28 rfl z1 ?_)
  try simp only [Act.put]
  try rw [show (w2b.alloc (.cells #[.int .i64 0, .string ⟨#[]⟩, .slice none 0 0, .slice none 0 0, .int .i64 0] 28)).setRow w2b.heap.size #[.int .i64 4, .string ⟨#[]⟩, mvb, lvb, .int .i64 500] = w2b.alloc (.cells #[.int .i64 4, .string ⟨#[]⟩, mvb, lvb, .int .i64 500] 28) from setRow_new _ _ _ _]
  clear z1
  have b3 : Below w2b.heap.size w2b (w2b.alloc (.cells #[.int .i64 4, .string ⟨#[]⟩, mvb, lvb, .int .i64 500] 28)) := (Below.refl _ _).alloc (Nat.le_refl _) _
  have Pb : Hid (Pk g2 (w2b.alloc (.cells #[.int .i64 4, .string ⟨#[]⟩, mvb, lvb, .int .i64 500] 28)) w2b.heap.size #[.int .i64 4, .string ⟨#[]⟩, mvb, lvb, .int .i64 500] (TC LB 500)) := ⟨alloc_at _ _, (At_mk _ _ _ _ _ _ _ _).2 ⟨_, _, rfl, hmb.keeps (Keeps.of_below b3), hlb.keeps (Keeps.of_below b3)⟩, GL2⟩
  have BWW4 := Lib.hid (BW2.trans (b3.mono BW2.size))
  have GW4 : (w2b.alloc (.cells #[.int .i64 4, .string ⟨#[]⟩, mvb, lvb, .int .i64 500] 28)).heap[g2]? = some (.cells #[.int .i64 (qb : Nat)] 3 (0, 0)) := by rw [b3.block _ (by omega)]; exact hg2
  have OW4 : (w2b.alloc (.cells #[.int .i64 4, .string ⟨#[]⟩, mvb, lvb, .int .i64 500] 28)).heap[g1]? = some (.cells #[.int .i64 (qa : Nat)] 3 (0, 0)) := by rw [b3.block _ (by omega)]; exact og2
  have HLW4 : g2 < (w2b.alloc (.cells #[.int .i64 4, .string ⟨#[]⟩, mvb, lvb, .int .i64 500] 28)).heap.size := Nat.lt_of_lt_of_le GL2 b3.size
  have Pa := Lib.hid (Pa2.out.below b3)
  clear b3 hg2 og2 BW2 GL2 hmb hlb BW1H OG1 GL1 Pa1 Pa2
  obtain ⟨bblk, hbblk⟩ : ∃ x, x = w2b.heap.size := ⟨_, rfl⟩
  generalize w2b.alloc (.cells #[.int .i64 4, .string ⟨#[]⟩, mvb, lvb, .int .i64 500] 28) = W4 at Pb BWW4 GW4 OW4 HLW4 Pa ⊢
  rw [← hbblk] at Pb ⊢
  clear hbblk
  have cg : W4.cell? ⟨g1, 0, none⟩ = some (.int .i64 qa) := by rw [Lib.cell_of_heap OW4]; rfl
  have cf := frozen_of_row W4 g1 0 _ 3 OW4
  have b5 : But W4.heap.size g1 W4 (W4.setCell ⟨g1, 0, none⟩ (.int .i64 0)) := (But.refl _ _ _).setCell (p := ⟨g1, 0, none⟩) (.inr rfl) _
  have GGW5 : Hid ((W4.setCell ⟨g1, 0, none⟩ (.int .i64 0)).heap[g1]? = some (.cells #[.int .i64 (0 : Nat)] 3 (0, 0))) := heap_setCell_same W4 g1 0 _ 3 (.int .i64 0) OW4
  have OGW5 : Hid ((W4.setCell ⟨g1, 0, none⟩ (.int .i64 0)).heap[g2]? = some (.cells #[.int .i64 (qb : Nat)] 3 (0, 0))) := (heap_setCell_other _ _ _ _ (by show g2 ≠ g1; omega)).trans GW4
  have BWW5 := Lib.hid (But.below6 BWW4.out b5 (by omega))
  have HLW5 : g2 < (W4.setCell ⟨g1, 0, none⟩ (.int .i64 0)).heap.size := Nat.lt_of_lt_of_le HLW4 b5.size
  have Pa5 := Lib.hid (Pa.out.but b5 (by omega))
  have Pb5 := Lib.hid (Pb.out.but b5 (by omega))
  clear b5 Pa Pb GW4 OW4
  go_upto_region 9 with fail
  clear cg cf
  generalize W4.setCell ⟨g1, 0, none⟩ (.int .i64 0) = W5 at GGW5 OGW5 BWW5 HLW5 Pa5 Pb5 ⊢
  have Pa := Lib.hid Pa5.out
  have Pb := Lib.hid Pb5.out
  clear Pa5 Pb5 BWW4 HLW4
  go_wp2_with fail
  have hlsc := HLW5
  refine (all_any l (by have := HC.out; omega) ao ac W5 (R0.out.below BWW5.out)).mono ?_
  rintro e w1c ⟨dv, rfl, hown, hb1⟩
  have hs1 := hb1.size
  have gg1 : w1c.heap[g1]? = some (.cells #[.int .i64 (0 : Nat)] 3 (0, 0)) := by rw [hb1.block _ (by omega)]; exact GGW5.out
  have og1 : w1c.heap[g2]? = some (.cells #[.int .i64 (qb : Nat)] 3 (0, 0)) := by rw [hb1.block _ (by omega)]; exact OGW5.out
  have BW1 : Below w0.heap.size w0 w1c := BWW5.out.trans (hb1.mono BWW5.out.size)
  have sg1 := ((Sg.of_row HN.out (g := g1) (by omega)).but (But.of B0.out)).but (But.of BW1)
  obtain ⟨dao, dcap, rfl⟩ := hown.at.form
  obtain ⟨dn, hdn⟩ : ∃ dn, dn = (Rw.makes l).length := ⟨_, rfl⟩
  rw [← hdn] at hown ⊢
  clear hdn
  have hat := list_at2 hown.at
  have hat' := Dt.At.mono (T := fun b => b ≠ g1) (fun b (hb : W5.heap.size ≤ b) => by omega) _ _ hat
  have zs1 := ZSM.out
  have F0 := Lib.hid (mark_any 1000000 (Nat.le_refl _) (.mk 4 ⟨#[]⟩ [] (Rw.makes l) 0) (by omega) (zs.take bl) g1 0 _ bo bl bc w1c hat' sg1 gg1 (by omega))
  have o1 := hown.at.one
  have Pa1 := Lib.hid (Pa.out.below hb1)
  have Pb1 := Lib.hid (Pb.out.below hb1)
  have BW1H := Lib.hid BW1
  have OG1 := Lib.hid og1
  have GL1 : g2 < w1c.heap.size := by omega
  clear hown hb1 hat hat' sg1 gg1 og1 BW1 hs1 zs1
  go_wp2_with fail
  refine F0.out.mono ?_
  rintro e w2c ⟨ca, rfl, hat, hb2, hg2⟩
  rw [mark_TC, ← HLA.out] at hat
  change Dt.At _ _ (TC LA 0) _ at hat
  unfold TC at hat
  rw [At_mk] at hat
  obtain ⟨mvc, lvc, rfl, hmc, hlc⟩ := hat
  have o3c := hmc.one
  have o4c := hlc.one
  obtain ⟨qc, hqc⟩ : ∃ q, q = (Dt.mk 4 ⟨#[]⟩ [] (Rw.makes l) 0).next (zs.take bl) 0 := ⟨_, rfl⟩
  rw [← hqc] at hg2
  clear hqc
  have hs2 := hb2.size
  have og2 : w2c.heap[g2]? = some (.cells #[.int .i64 (qb : Nat)] 3 (0, 0)) := by rw [hb2.block _ (by omega) (by omega)]; exact OG1.out
  have BW2 : Below w0.heap.size w0 w2c := But.below6 BW1H.out hb2 (by omega)
  have GL2 : g2 < w2c.heap.size := by omega
  have hmc := MAt.mono (T := fun x => g2 < x) hmc (fun x hx => by have : w1c.heap.size ≤ x := hx; omega)
  have hlc := LAt.mono (T := fun x => g2 < x) hlc (fun x hx => by have : w1c.heap.size ≤ x := hx; omega)
  have Pa2 := Lib.hid (Pa1.out.but hb2 (by omega))
  have Pb2 := Lib.hid (Pb1.out.but hb2 (by omega))
  clear F0 hb2 hs2
  have z1 : (#[.int .i64 4, .string ⟨#[]⟩, mvc, lvc, .int .i64 0] : Array Value).all (·.oneCell') = true := by simp [Value.oneCell'] at o3c o4c ⊢; exact ⟨o3c, o4c⟩
  go_upto_region 10 with (refine wpList_store_row rfl 28 _ _ rfl w2c.heap.size #[.int .i64 4, .string ⟨#[]⟩, mvc, lvc, .int .i64 0] rfl rfl 28 Z5 (alloc_at _ _) info28 rfl z1 ?_)
  try simp only [Act.put]
  try rw [show (w2c.alloc (.cells #[.int .i64 0, .string ⟨#[]⟩, .slice none 0 0, .slice none 0 0, .int .i64 0] 28)).setRow w2c.heap.size #[.int .i64 4, .string ⟨#[]⟩, mvc, lvc, .int .i64 0] = w2c.alloc (.cells #[.int .i64 4, .string ⟨#[]⟩, mvc, lvc, .int .i64 0] 28) from setRow_new _ _ _ _]
  clear z1
  -- c's place is written over
  have r5 := alloc_at w2c (.cells #[.int .i64 4, .string ⟨#[]⟩, mvc, lvc, .int .i64 0] 28)
  have cc : (w2c.alloc (.cells #[.int .i64 4, .string ⟨#[]⟩, mvc, lvc, .int .i64 0] 28)).cell? ⟨w2c.heap.size, 4, none⟩ = some (.int .i64 0) := by rw [Lib.cell_of_heap r5]; rfl
  have cf := frozen_of_row _ w2c.heap.size 4 _ 28 r5
  have b3 : Below w2c.heap.size w2c (w2c.alloc (.cells #[.int .i64 4, .string ⟨#[]⟩, mvc, lvc, .int .i64 n] 28)) := (Below.refl _ _).alloc (Nat.le_refl _) _
  have Pc : Hid (Pk g2 (w2c.alloc (.cells #[.int .i64 4, .string ⟨#[]⟩, mvc, lvc, .int .i64 n] 28)) w2c.heap.size #[.int .i64 4, .string ⟨#[]⟩, mvc, lvc, .int .i64 n] (TC LA n)) := ⟨alloc_at _ _, (At_mk _ _ _ _ _ _ _ _).2 ⟨_, _, rfl, hmc.keeps (Keeps.of_below b3), hlc.keeps (Keeps.of_below b3)⟩, GL2⟩
  have BWW6 := Lib.hid (BW2.trans (b3.mono BW2.size))
  have Pa6 := Lib.hid (Pa2.out.below b3)
  have Pb6 := Lib.hid (Pb2.out.below b3)
  clear b3 hg2 og2 BW2 GL2 hmc hlc BW1H OG1 GL1 Pa1 Pb1 Pa2 Pb2 Pa Pb r5
  go_upto_region 11 with fail
  clear cc cf
  obtain ⟨cblk, hcblk⟩ : ∃ x, x = w2c.heap.size := ⟨_, rfl⟩
  generalize w2c.alloc (.cells #[.int .i64 4, .string ⟨#[]⟩, mvc, lvc, .int .i64 n] 28) = W6 at Pc BWW6 Pa6 Pb6 ⊢
  rw [← hcblk] at Pc ⊢
  clear hcblk
  have HC6 := Lib.hid Pc.out.1
  have FC := Lib.hid (copy_any 1000000 (Nat.le_refl _) (TC LA n) (by rw [size_TC]; omega) _ _ W6 Pc.out.2.1)
  go_wp2_with (refine wpList_load_row rfl 28 _ rfl cblk rfl 28 #[.int .i64 4, .string ⟨#[]⟩, mvc, lvc, .int .i64 n] (0, 0) _ HC6.out Try.underlying28 rfl info28 ?_)
  refine FC.out.mono ?_
  rintro e w7 ⟨kd, td, mvd, lvd, pd, rfl, hatd, hownd, hb7⟩
  unfold TC at hatd
  rw [At_mk] at hatd
  obtain ⟨mv', lv', e, hmd, hld⟩ := hatd
  simp at e
  obtain ⟨rfl, rfl, rfl, rfl, rfl⟩ := e
  have o3d := hmd.one
  have o4d := hld.one
  obtain ⟨lo, lc, rfl⟩ := hownd.at.form
  change OwnD W6.heap.size w7 (.slice lo LA.length lc) LA at hownd
  have hll := length_sizes LA
  have z1 : (#[.int .i64 4, .string ⟨#[]⟩, mvd, .slice lo LA.length lc, .int .i64 pd] : Array Value).all (·.oneCell') = true := by simp [Value.oneCell'] at o3d ⊢; exact o3d
  go_upto_region 12 with (refine wpList_store_row rfl 28 _ _ rfl w7.heap.size #[.int .i64 4, .string ⟨#[]⟩, mvd, .slice lo LA.length lc, .int .i64 pd] rfl rfl 28 Z5 (alloc_at _ _) info28 rfl z1 ?_)
  try simp only [Act.put]
  try rw [show (w7.alloc (.cells #[.int .i64 0, .string ⟨#[]⟩, .slice none 0 0, .slice none 0 0, .int .i64 0] 28)).setRow w7.heap.size #[.int .i64 4, .string ⟨#[]⟩, mvd, .slice lo LA.length lc, .int .i64 pd] = w7.alloc (.cells #[.int .i64 4, .string ⟨#[]⟩, mvd, .slice lo LA.length lc, .int .i64 pd] 28) from setRow_new _ _ _ _]
  clear z1
  obtain ⟨xs, ho8, hz8, hnx⟩ := more_own hownd hb7.size #[.int .i64 4, .string ⟨#[]⟩, mvd, .slice lo LA.length lc, .int .i64 pd]
  have HO8 := Lib.hid ho8
  have HZ8 := Lib.hid hz8
  have HNX := Lib.hid hnx
  have HB7 := Lib.hid hb7
  have HMD := Lib.hid hmd
  clear ho8 hz8 hnx hb7 hownd hmd hld
  have c12 : (w7.alloc (.cells #[.int .i64 4, .string ⟨#[]⟩, mvd, .slice lo LA.length lc, .int .i64 pd] 28)).cell? ⟨w7.heap.size, 3, none⟩ = some (.slice lo LA.length lc) := by rw [Lib.cell_of_heap (alloc_at w7 _)]; rfl
  go_upto_region 13 with (refine wpList_wanted (by rfl) fun K hK => ?_; refine wp_app (Operand.tmp 40) (Operand.tmp 42) rfl W6.heap.size (.slice lo LA.length lc) LA.length xs rfl HO8.out (w7.heap.size + 1) 1 rfl [.int .i64 3, .string ⟨#[109, 111, 114, 101]⟩, .slice none 0 0, .slice none 0 0, .int .i64 0] rfl (fun i u hu => by rw [Lib.cell_of_heap (second_at w7 #[.int .i64 4, .string ⟨#[]⟩, mvd, .slice lo LA.length lc, .int .i64 pd] #[.int .i64 3, .string ⟨#[109, 111, 114, 101]⟩, .slice none 0 0, .slice none 0 0, .int .i64 0])]; simpa using hu) (by simp [Value.oneCell']) (by omega) HZ8.out ?_; intro v' w9 hown9 hg9 hv9; obtain ⟨so, sn, sc, rfl⟩ := own_form hown9; have HX := Lib.hid (HNX.out _ w9 hown9 hg9 hv9); have cc : w9.cell? ⟨w7.heap.size, 3, none⟩ = some (.slice lo LA.length lc) := (by rw [Lib.cell_of_heap HX.out.1]; rfl); have cf := frozen_of_row w9 w7.heap.size 3 _ 28 HX.out.1; clear hown9 hg9 hv9; refine hK _ _ ?_; clear hK K)
  try simp only [Act.put]
  clear cc cf c12
  have r10 := heap_setCell_same w9 w7.heap.size 3 _ 28 (.slice so sn sc) HX.out.1
  have hc6 : cblk < W6.heap.size := (Array.getElem?_eq_some_iff.1 Pc.out.1).1
  have hg6 := Pc.out.2.2
  have Pd : Hid (Pk g2 (w9.setCell ⟨w7.heap.size, 3, none⟩ (.slice so sn sc)) w7.heap.size #[.int .i64 4, .string ⟨#[]⟩, mvd, .slice so sn sc, .int .i64 pd] (TD LA pd)) := by
    refine ⟨r10, (At_mk _ _ _ _ _ _ _ _).2 ⟨_, _, rfl, ?_, ?_⟩, by have := HB7.out.size; omega⟩
    · exact MAt.mono (HX.out.2.1 _ _ _ HMD.out) (fun x hx => by have : W6.heap.size ≤ x := hx.1; omega)
    · exact LAt.mono HX.out.2.2.2.at (fun x hx => by have : W6.heap.size ≤ x := hx; omega)
  have b610 : Below W6.heap.size W6 (w9.setCell ⟨w7.heap.size, 3, none⟩ (.slice so sn sc)) := HB7.out.trans HX.out.2.2.1
  have Pa10 := Lib.hid (Pa6.out.below b610)
  have Pb10 := Lib.hid (Pb6.out.below b610)
  have Pc10 := Lib.hid (Pc.out.below b610)
  have BW10 := Lib.hid (BWW6.out.trans (b610.mono BWW6.out.size))
  clear b610 r10 hc6 hg6 HX HNX HO8 HZ8 HMD HB7 Pa6 Pb6 Pc
  obtain ⟨dblk, hdblk⟩ : ∃ x, x = w7.heap.size := ⟨_, rfl⟩
  generalize w9.setCell ⟨w7.heap.size, 3, none⟩ (.slice so sn sc) = W10 at Pa10 Pb10 Pc10 Pd BW10 ⊢
  rw [← hdblk] at Pd ⊢
  clear hdblk
  have HD10 := Lib.hid Pd.out.1
  have FE := Lib.hid (copy_any 1000000 (Nat.le_refl _) (TD LA pd) (by rw [size_TD]; omega) _ _ W10 Pd.out.2.1)
  go_wp2_with (refine wpList_load_row rfl 28 _ rfl dblk rfl 28 #[.int .i64 4, .string ⟨#[]⟩, mvd, .slice so sn sc, .int .i64 pd] (0, 0) _ HD10.out Try.underlying28 rfl info28 ?_)
  refine FE.out.mono ?_
  rintro e w11 ⟨ke, te, mve, lve, pe, rfl, hate, howne, hb11⟩
  unfold TD at hate
  rw [At_mk] at hate
  obtain ⟨mv', lv', e, hme, hle⟩ := hate
  simp at e
  obtain ⟨rfl, rfl, rfl, rfl, hpe⟩ := e
  subst hpe
  have o3e := hme.one
  obtain ⟨eo, ec, rfl⟩ := howne.at.form
  have hlp : (TD LA pe).parts.length = LA.length + 1 := by simp [TD, Dt.parts]
  obtain ⟨en, hen⟩ : ∃ en, en = (TD LA pe).parts.length := ⟨_, rfl⟩
  rw [← hen] at howne ⊢
  rw [hlp] at hen
  have HEN := Lib.hid hen
  clear hlp hen
  have z1 : (#[.int .i64 4, .string ⟨#[]⟩, mve, .slice eo en ec, .int .i64 pe] : Array Value).all (·.oneCell') = true := by simp [Value.oneCell'] at o3e ⊢; exact o3e
  go_upto_region 14 with (refine wpList_store_row rfl 28 _ _ rfl w11.heap.size #[.int .i64 4, .string ⟨#[]⟩, mve, .slice eo en ec, .int .i64 pe] rfl rfl 28 Z5 (alloc_at _ _) info28 rfl z1 ?_)
  try simp only [Act.put]
  try rw [show (w11.alloc (.cells #[.int .i64 0, .string ⟨#[]⟩, .slice none 0 0, .slice none 0 0, .int .i64 0] 28)).setRow w11.heap.size #[.int .i64 4, .string ⟨#[]⟩, mve, .slice eo en ec, .int .i64 pe] = w11.alloc (.cells #[.int .i64 4, .string ⟨#[]⟩, mve, .slice eo en ec, .int .i64 pe] 28) from setRow_new _ _ _ _]
  clear z1
  have r12 := alloc_at w11 (.cells #[.int .i64 4, .string ⟨#[]⟩, mve, .slice eo en ec, .int .i64 pe] 28)
  have b12 : Below w11.heap.size w11 (w11.alloc (.cells #[.int .i64 4, .string ⟨#[]⟩, mve, .slice eo en ec, .int .i64 pe] 28)) := (Below.refl _ _).alloc (Nat.le_refl _) _
  have b1012 : Below W10.heap.size W10 (w11.alloc (.cells #[.int .i64 4, .string ⟨#[]⟩, mve, .slice eo en ec, .int .i64 pe] 28)) := hb11.trans (b12.mono hb11.size)
  have own12 := OwnD.below howne b12
  have me12 := MAt.keeps hme (Keeps.of_below b12)
  have elt : ∀ k, (Value.slice eo en ec).ownBlock = some k → k ≠ w11.heap.size := fun k hk => by have := (howne.lt hk).2; omega
  have s12 : (w11.alloc (.cells #[.int .i64 4, .string ⟨#[]⟩, mve, .slice eo en ec, .int .i64 pe] 28)).heap.size = w11.heap.size + 1 := by simp
  obtain ⟨eblk, heblk⟩ : ∃ x, x = w11.heap.size := ⟨_, rfl⟩
  generalize w11.alloc (.cells #[.int .i64 4, .string ⟨#[]⟩, mve, .slice eo en ec, .int .i64 pe] 28) = W12 at r12 b1012 own12 me12 s12 ⊢
  rw [← heblk] at r12 elt s12 ⊢
  clear heblk b12 hle hme howne hb11
  obtain ⟨x, hx⟩ : ∃ x, which % 9 = x := ⟨_, rfl⟩
  have FW := Lib.hid (fun w => within_is which 9 x HW.out (by decide) (by decide) hx w)
  have hx9 : 0 ≤ x ∧ x < 9 := by omega
  have R12 := Lib.hid r12
  have B12 := Lib.hid b1012
  have O12 := Lib.hid own12
  have M12 := Lib.hid me12
  have EL := Lib.hid elt
  have S12 := Lib.hid s12
  obtain ⟨ln, hln⟩ : ∃ ln, ln = LA.length := ⟨_, rfl⟩
  have hen := HEN.out
  have hkI : (en : Int) - 1 = (ln : Int) := by omega
  have hke : ln < en := by omega
  have hen61 : en ≤ 61 := by omega
  clear hen
  clear hx r12 b1012 own12 me12 elt s12
  obtain ⟨WD, hWD⟩ : ∃ WD, WD = W12.drew := ⟨_, rfl⟩
  have bd : Below W12.heap.size W12 WD := by rw [hWD]; exact (Below.refl _ _).drew
  have sd : WD.heap.size = eblk + 1 := by rw [hWD]; exact S12.out
  have rd : WD.heap[eblk]? = some (.cells #[.int .i64 4, .string ⟨#[]⟩, mve, .slice eo en ec, .int .i64 pe] 28 (0, 0)) := Below.row bd R12.out
  have mD := alloc_at WD (.cells #[.int .i64 x] 3)
  have bm : Below WD.heap.size WD (WD.alloc (.cells #[.int .i64 x] 3)) := (Below.refl _ _).alloc (Nat.le_refl _) _
  have ownm := OwnD.below (OwnD.below O12.out bd) bm
  change OwnD _ _ _ (LA ++ [.mk 3 moreT [] [] 0]) at ownm
  obtain ⟨ge, rfl, -, hBg, hgm, ⟨v0, cv0⟩, cfe, late⟩ := ownm.mark_last mD
  have hge : ge ≠ eblk := EL.out ge rfl
  rw [← hln] at cv0 cfe late
  have CV := Lib.hid cv0
  have CFE := Lib.hid cfe
  have LATE := Lib.hid late
  have ceD : WD.cell? ⟨eblk, 3, none⟩ = some (.slice (some ⟨ge, 0, none⟩) en ec) := by rw [Lib.cell_of_heap rd]; rfl
  have ceM : (WD.alloc (.cells #[.int .i64 x] 3)).cell? ⟨eblk, 3, none⟩ = some (.slice (some ⟨ge, 0, none⟩) en ec) := by rw [Lib.cell_of_heap (Below.row bm rd)]; rfl
  have re13 : ((WD.alloc (.cells #[.int .i64 x] 3)).setCell ⟨ge, ln * 5 + 2, none⟩ (.slice (some ⟨WD.heap.size, 0, none⟩) 1 1)).heap[eblk]? = some (.cells #[.int .i64 4, .string ⟨#[]⟩, mve, .slice (some ⟨ge, 0, none⟩) en ec, .int .i64 pe] 28 (0, 0)) := by
    rw [heap_setCell_other _ _ _ _ (fun e => hge e.symm)]; exact Below.row bm rd
  have ceS : ((WD.alloc (.cells #[.int .i64 x] 3)).setCell ⟨ge, ln * 5 + 2, none⟩ (.slice (some ⟨WD.heap.size, 0, none⟩) 1 1)).cell? ⟨eblk, 3, none⟩ = some (.slice (some ⟨ge, 0, none⟩) en ec) := by rw [Lib.cell_of_heap re13]; rfl
  have b1013 : Below W10.heap.size W10 ((WD.alloc (.cells #[.int .i64 x] 3)).setCell ⟨ge, ln * 5 + 2, none⟩ (.slice (some ⟨WD.heap.size, 0, none⟩) 1 1)) :=
    ((B12.out.trans (bd.mono B12.out.size)).trans (bm.mono (by have := B12.out.size; have := bd.size; omega))).setCell (p := ⟨ge, ln * 5 + 2, none⟩) hBg _
  have grow : ∃ cur, (WD.alloc (.cells #[.int .i64 x] 3)).heap[ge]? = some (.cells cur 28 (0, 0)) := by
    obtain ⟨ys, hy, _⟩ := ownm
    rcases hy.2 with ⟨e, _⟩ | ⟨g', cap', cur, e, _, hgg, _⟩
    · cases e
    · injection e with e1 _ _
      injection e1 with e1
      injection e1 with e1 _ _
      subst e1
      exact ⟨cur, hgg⟩
  obtain ⟨cur, hcur⟩ := grow
  have me13 : MAt (fun _ => True) ((WD.alloc (.cells #[.int .i64 x] 3)).setCell ⟨ge, ln * 5 + 2, none⟩ (.slice (some ⟨WD.heap.size, 0, none⟩) 1 1)) mve [] := by
    have h1 := (MAt.keeps (MAt.keeps M12.out (Keeps.of_below bd)) (Keeps.of_below bm)).ne hcur
    exact MAt.mono (h1.keeps (fun y c T fz hy hh _ => ⟨fz, by rw [heap_setCell_other _ _ _ _ hy.2]; exact hh⟩)) (fun _ _ => trivial)
  have CED := Lib.hid ceD
  have CEM := Lib.hid ceM
  have CES := Lib.hid ceS
  have RE13 := Lib.hid re13
  have B1013 := Lib.hid b1013
  have ME13 := Lib.hid me13
  clear hln cv0 cfe late ceD ceM ceS re13 b1013 me13 hcur ownm bm mD rd sd bd R12 B12 O12 M12 EL S12
  refine wp_region_noPanic ?_
  refine wp_region_held_drew (S := fun w' => w'.cell? ⟨eblk, 3, none⟩ = some (.slice (some ⟨ge, 0, none⟩) en ec)) (by kernel_rfl) (by have h := CED.out; rw [hWD] at h; exact h) (fun hHeld => ?_)
  rw [← hWD] at hHeld ⊢
  clear hWD
  refine wpAnyH_take (i := 0) (v := Value.pointer (some ⟨eblk, 3, none⟩)) rfl (by kernel_rfl) (by kernel_rfl) (by kernel_rfl) (fun _ _ _ h => h) (Or.inl ⟨rfl, fun w' hw' => ?_⟩) hHeld ?_
  · go_simp
  simp only [List.getElem_toArray, List.getElem_cons_succ, List.getElem_cons_zero, Act.put, List.setIfInBounds_toArray, List.set_cons_zero, List.set_cons_succ]
  refine wpAnyH_take (i := 1) (v := Value.slice (some ⟨ge, 0, none⟩) en ec) rfl (by kernel_rfl) (by kernel_rfl) (by kernel_rfl) (fun _ _ _ h => h) (Or.inl ⟨rfl, fun w' hw' => ?_⟩) hHeld ?_
  · go_simp
  simp only [List.getElem_toArray, List.getElem_cons_succ, List.getElem_cons_zero, Act.put, List.setIfInBounds_toArray, List.set_cons_zero, List.set_cons_succ]
  refine wpAnyH_take (i := 2) (v := Value.pointer (some ⟨eblk, 3, none⟩)) rfl (by kernel_rfl) (by kernel_rfl) (by kernel_rfl) (fun _ _ _ h => h) (Or.inl ⟨rfl, fun w' hw' => ?_⟩) hHeld ?_
  · go_simp
  simp only [List.getElem_toArray, List.getElem_cons_succ, List.getElem_cons_zero, Act.put, List.setIfInBounds_toArray, List.set_cons_zero, List.set_cons_succ]
  refine wpAnyH_take (i := 3) (v := Value.slice (some ⟨ge, 0, none⟩) en ec) rfl (by kernel_rfl) (by kernel_rfl) (by kernel_rfl) (fun _ _ _ h => h) (Or.inl ⟨rfl, fun w' hw' => ?_⟩) hHeld ?_
  · go_simp
  simp only [List.getElem_toArray, List.getElem_cons_succ, List.getElem_cons_zero, Act.put, List.setIfInBounds_toArray, List.set_cons_zero, List.set_cons_succ]
  refine wpAnyH_take (i := 4) (v := Value.int .i64 en) rfl (by kernel_rfl) (by kernel_rfl) (by kernel_rfl) (fun _ _ _ h => h) (Or.inl ⟨rfl, fun w' hw' => ?_⟩) hHeld ?_
  · go_simp
  simp only [List.getElem_toArray, List.getElem_cons_succ, List.getElem_cons_zero, Act.put, List.setIfInBounds_toArray, List.set_cons_zero, List.set_cons_succ]
  refine wpAnyH_take (i := 5) (v := Value.int .i64 ln) rfl (by kernel_rfl) (by kernel_rfl) (by kernel_rfl) (fun _ _ _ h => h) (Or.inl ⟨rfl, fun w' hw' => ?_⟩) hHeld ?_
  · go_simp; exact IntWalk.i64_in _ ⟨by omega, by omega⟩
  simp only [List.getElem_toArray, List.getElem_cons_succ, List.getElem_cons_zero, Act.put, List.setIfInBounds_toArray, List.set_cons_zero, List.set_cons_succ]
  refine wpAnyH_take (i := 6) (v := Value.int .i64 which) rfl (by kernel_rfl) (by kernel_rfl) (by kernel_rfl) (fun _ _ _ h => h) (Or.inl ⟨rfl, fun w' hw' => ?_⟩) hHeld ?_
  · go_simp
  simp only [List.getElem_toArray, List.getElem_cons_succ, List.getElem_cons_zero, Act.put, List.setIfInBounds_toArray, List.set_cons_zero, List.set_cons_succ]
  refine wpAnyH_ready (rs := [7]) (by kernel_rfl) (by simp) ?_
  refine (AllReadyH.cons rfl (fun K hK => ?_) AllReadyH.nil)
  go_simp
  refine (FW.out _).mono ?_
  rintro e w' ⟨rfl, rfl⟩
  refine hK.out _ _ hHeld (fun hHeld => ?_)
  clear hK K
  try simp only [List.getElem_toArray, List.getElem_cons_succ, List.getElem_cons_zero, Act.put, List.setIfInBounds_toArray, List.set_cons_zero, List.set_cons_succ]
  refine wpAnyH_ready (rs := [8]) (by kernel_rfl) (by simp) ?_
  refine (AllReadyH.cons rfl (fun K hK => ?_) AllReadyH.nil)
  go_simp
  refine hK.out _ _ CEM.out (fun hHeld => ?_)
  clear hK K
  try simp only [List.getElem_toArray, List.getElem_cons_succ, List.getElem_cons_zero, Act.put, List.setIfInBounds_toArray, List.set_cons_zero, List.set_cons_succ]
  refine wpAnyH_take (i := 9) (v := Value.pointer (some ⟨ge, ln * 5, none⟩)) rfl (by kernel_rfl) (by kernel_rfl) (by kernel_rfl) (fun _ _ _ h => h) (Or.inl ⟨rfl, fun w' hw' => ?_⟩) hHeld ?_
  · go_simp
  simp only [List.getElem_toArray, List.getElem_cons_succ, List.getElem_cons_zero, Act.put, List.setIfInBounds_toArray, List.set_cons_zero, List.set_cons_succ]
  refine wpAnyH_take (i := 10) (v := Value.pointer (some ⟨ge, ln * 5 + 2, none⟩)) rfl (by kernel_rfl) (by kernel_rfl) (by kernel_rfl) (fun _ _ _ h => h) (Or.inl ⟨rfl, fun w' hw' => ?_⟩) hHeld ?_
  · go_simp
  simp only [List.getElem_toArray, List.getElem_cons_succ, List.getElem_cons_zero, Act.put, List.setIfInBounds_toArray, List.set_cons_zero, List.set_cons_succ]
  refine wpAnyH_ready (rs := [11]) (by kernel_rfl) (by simp) ?_
  refine (AllReadyH.cons rfl (fun K hK => ?_) AllReadyH.nil)
  have cc := CV.out
  have cf := CFE.out
  go_simp
  refine hK.out _ _ CES.out (fun hHeld => ?_)
  clear hK K cc cf
  try simp only [List.getElem_toArray, List.getElem_cons_succ, List.getElem_cons_zero, Act.put, List.setIfInBounds_toArray, List.set_cons_zero, List.set_cons_succ]
  refine wpAnyH_done (by kernel_rfl) ?_ _
  refine NoPanic.normal ?_
  clear hHeld
  have ATE : Hid (Dt.At (fun _ => True) ((WD.alloc (.cells #[.int .i64 x] 3)).setCell ⟨ge, ln * 5 + 2, none⟩ (.slice (some ⟨WD.heap.size, 0, none⟩) 1 1)) (TE LA pe x) #[.int .i64 4, .string ⟨#[]⟩, mve, .slice (some ⟨ge, 0, none⟩) en ec, .int .i64 pe]) := (At_mk _ _ _ _ _ _ _ _).2 ⟨_, _, rfl, ME13.out, LATE.out⟩
  have Pa := Lib.hid (Pa10.out.below B1013.out)
  have Pb := Lib.hid (Pb10.out.below B1013.out)
  have Pc := Lib.hid (Pc10.out.below B1013.out)
  have Pd13 := Lib.hid (Pd.out.below B1013.out)
  have BW := Lib.hid (BW10.out.trans (B1013.out.mono BW10.out.size))
  clear CV CFE LATE CED CEM CES ME13 Pa10 Pb10 Pc10 Pd B1013 BW10
  generalize (WD.alloc (.cells #[.int .i64 x] 3)).setCell ⟨ge, ln * 5 + 2, none⟩ (.slice (some ⟨WD.heap.size, 0, none⟩) 1 1) = W13 at RE13 ATE Pa Pb Pc Pd13 BW ⊢
  go_upto_region 15 with fail
  have F1 : Hid (∀ w', Below W13.heap.size W13 w' → Calls Try.prog 19 #[.agg #[.int .i64 4, .string ⟨#[]⟩, mva, lva, .int .i64 0], .agg #[.int .i64 4, .string ⟨#[]⟩, mvc, lvc, .int .i64 pe]] w' (RetBool true w')) := by
    intro w' hb
    have := same_any 1000000 (by decide) (TC LA 0) (TC LA pe) (by rw [size_TC]; omega) _ _ _ _ w' (Dt.At.keeps (Keeps.of_below hb) _ _ Pa.out.2.1) (Dt.At.keeps (Keeps.of_below hb) _ _ Pc.out.2.1)
    rw [same_AC] at this
    exact this
  have F4 : Hid (∀ w', Below W13.heap.size W13 w' → Calls Try.prog 19 #[.agg #[.int .i64 4, .string ⟨#[]⟩, mvc, lvc, .int .i64 pe], .agg #[.int .i64 4, .string ⟨#[]⟩, mvd, .slice so sn sc, .int .i64 pe]] w' (RetBool false w')) := by
    intro w' hb
    have := same_any 1000000 (by decide) (TC LA pe) (TD LA pe) (by rw [size_TC]; omega) _ _ _ _ w' (Dt.At.keeps (Keeps.of_below hb) _ _ Pc.out.2.1) (Dt.At.keeps (Keeps.of_below hb) _ _ Pd13.out.2.1)
    rw [same_CD] at this
    exact this
  have F5 : Hid (∀ w', Below W13.heap.size W13 w' → Calls Try.prog 19 #[.agg #[.int .i64 4, .string ⟨#[]⟩, mvd, .slice so sn sc, .int .i64 pe], .agg #[.int .i64 4, .string ⟨#[]⟩, mve, .slice (some ⟨ge, 0, none⟩) en ec, .int .i64 pe]] w' (RetBool false w')) := by
    intro w' hb
    have := same_any 1000000 (by decide) (TD LA pe) (TE LA pe x) (by rw [size_TD]; omega) _ _ _ _ w' (Dt.At.keeps (Keeps.of_below hb) _ _ Pd13.out.2.1) (Dt.At.keeps (Keeps.of_below hb) _ _ ATE.out)
    rw [same_DE] at this
    exact this
  obtain ⟨sab, hsab⟩ : ∃ s, s = Dt.same (TC LB 500) (TC LA 0) := ⟨_, rfl⟩
  have F9 : Hid (∀ w', Below W13.heap.size W13 w' → Calls Try.prog 19 #[.agg #[.int .i64 4, .string ⟨#[]⟩, mvb, lvb, .int .i64 500], .agg #[.int .i64 4, .string ⟨#[]⟩, mva, lva, .int .i64 0]] w' (RetBool sab w')) := by
    intro w' hb
    have := same_any 1000000 (by decide) (TC LB 500) (TC LA 0) (by rw [size_TC]; omega) _ _ _ _ w' (Dt.At.keeps (Keeps.of_below hb) _ _ Pb.out.2.1) (Dt.At.keeps (Keeps.of_below hb) _ _ Pa.out.2.1)
    rw [← hsab] at this
    exact this
  have F10 : Hid (∀ w', Below W13.heap.size W13 w' → Calls Try.prog 19 #[.agg #[.int .i64 4, .string ⟨#[]⟩, mva, lva, .int .i64 0], .agg #[.int .i64 4, .string ⟨#[]⟩, mvb, lvb, .int .i64 500]] w' (RetBool sab w')) := by
    intro w' hb
    have := same_any 1000000 (by decide) (TC LA 0) (TC LB 500) (by rw [size_TC]; omega) _ _ _ _ w' (Dt.At.keeps (Keeps.of_below hb) _ _ Pa.out.2.1) (Dt.At.keeps (Keeps.of_below hb) _ _ Pb.out.2.1)
    rw [same_comm, ← hsab] at this
    exact this
  have F2 : Hid (∀ w', Below W13.heap.size W13 w' → Calls Try.prog 15 #[.agg #[.int .i64 4, .string ⟨#[]⟩, mva, lva, .int .i64 0]] w' (RetMk (TC LA 0).plain w')) := fun w' hb => plain_any 1000000 (by decide) (TC LA 0) (by rw [size_TC]; omega) _ _ w' (Dt.At.keeps (Keeps.of_below hb) _ _ Pa.out.2.1)
  have F6 : Hid (∀ w', Below W13.heap.size W13 w' → Calls Try.prog 15 #[.agg #[.int .i64 4, .string ⟨#[]⟩, mvd, .slice so sn sc, .int .i64 pe]] w' (RetMk (TD LA pe).plain w')) := fun w' hb => plain_any 1000000 (by decide) (TD LA pe) (by rw [size_TD]; omega) _ _ w' (Dt.At.keeps (Keeps.of_below hb) _ _ Pd13.out.2.1)
  have F7 : Hid (∀ w', Below W13.heap.size W13 w' → Calls Try.prog 15 #[.agg #[.int .i64 4, .string ⟨#[]⟩, mve, .slice (some ⟨ge, 0, none⟩) en ec, .int .i64 pe]] w' (RetMk (TE LA pe x).plain w')) := fun w' hb => plain_any 1000000 (by decide) (TE LA pe x) (by rw [size_TE]; omega) _ _ w' (Dt.At.keeps (Keeps.of_below hb) _ _ ATE.out)
  have F3 : Hid (∀ (S : Nat → Prop) (cs : Array Value) w', Below W13.heap.size W13 w' → Dt.At S w' (TC LA 0).plain cs → Calls Try.prog 19 #[.agg cs, .agg #[.int .i64 4, .string ⟨#[]⟩, mvb, lvb, .int .i64 500]] w' (RetBool true w')) := by
    intro S cs w' hb hc
    have := same_any 1000000 (by decide) (TC LA 0).plain (TC LB 500) (by rw [plain_size, size_TC]; omega) _ _ _ _ w' hc (Dt.At.keeps (Keeps.of_below hb) _ _ Pb.out.2.1)
    have e : Dt.same (TC LA 0).plain (TC LB 500) = true := by simp only [TC, Dt.plain, same_mk, HPB.out]; simp
    rw [e] at this
    exact this
  have F8 : Hid (∀ (S T : Nat → Prop) (cs ds : Array Value) w', Dt.At S w' (TD LA pe).plain cs → Dt.At T w' (TE LA pe x).plain ds → Calls Try.prog 19 #[.agg cs, .agg ds] w' (RetBool true w')) := by
    intro S T cs ds w' hc hd
    have := same_any 1000000 (by decide) (TD LA pe).plain (TE LA pe x).plain (by rw [plain_size, size_TD]; omega) _ _ _ _ w' hc hd
    rw [plain_DE LA pe x, same_refl] at this
    exact this
  have HA := Lib.hid Pa.out.1
  have HBB := Lib.hid Pb.out.1
  have HCC := Lib.hid Pc.out.1
  have HDD := Lib.hid Pd13.out.1
  clear hsab
  refine wp_region_noPanic ?_
  refine wp_region_held_drew (S := Below W13.heap.size W13) (by kernel_rfl) ((Below.refl _ _).drew) (fun hHeld => ?_)
  obtain ⟨wd, hwd⟩ : ∃ x, x = W13.drew := ⟨_, rfl⟩
  rw [← hwd] at hHeld ⊢
  clear hwd
  refine wpAnyH_take (i := 0) rfl (by kernel_rfl) (by kernel_rfl) (by kernel_rfl) (fun _ _ _ h => h) (yieldsIf_load_mid (by rfl) _ _ rfl ablk 0 rfl [.int .i64 4, .string ⟨#[]⟩, mva, lva, .int .i64 0] _ (fun w' hw' => row_range (Below.row hw' HA.out)) Try.underlying28 rfl info28) hHeld ?_
  simp only [List.getElem_toArray, List.getElem_cons_succ, List.getElem_cons_zero, Act.put, List.setIfInBounds_toArray, List.set_cons_zero, List.set_cons_succ]
  refine wpAnyH_take (i := 1) rfl (by kernel_rfl) (by kernel_rfl) (by kernel_rfl) (fun _ _ _ h => h) (yieldsIf_load_mid (by rfl) _ _ rfl cblk 0 rfl [.int .i64 4, .string ⟨#[]⟩, mvc, lvc, .int .i64 pe] _ (fun w' hw' => row_range (Below.row hw' HCC.out)) Try.underlying28 rfl info28) hHeld ?_
  simp only [List.getElem_toArray, List.getElem_cons_succ, List.getElem_cons_zero, Act.put, List.setIfInBounds_toArray, List.set_cons_zero, List.set_cons_succ]
  refine wpAnyH_ready (rs := [2]) (by kernel_rfl) (by simp) ?_
  refine (AllReadyH.cons rfl (fun K hK => ?_) AllReadyH.nil)
  go_simp
  refine (F1.out _ hHeld).mono ?_
  rintro e w5 ⟨rfl, hb⟩
  have hS := Below.trans hHeld (hb.mono hHeld.size)
  refine hK.out _ _ hS (fun hHeld => ?_)
  clear hK K hb hS
  try simp only [List.getElem_toArray, List.getElem_cons_succ, List.getElem_cons_zero, Act.put, List.setIfInBounds_toArray, List.set_cons_zero, List.set_cons_succ]
  refine wpAnyH_take (i := 3) (v := Value.bool true) rfl (by kernel_rfl) (by kernel_rfl) (by kernel_rfl) (fun _ _ _ h => h) (Or.inl ⟨rfl, fun w' hw' => ?_⟩) hHeld ?_
  · go_simp
  simp only [List.getElem_toArray, List.getElem_cons_succ, List.getElem_cons_zero, Act.put, List.setIfInBounds_toArray, List.set_cons_zero, List.set_cons_succ]
  refine wpAnyH_take (i := 4) rfl (by kernel_rfl) (by kernel_rfl) (by kernel_rfl) (fun _ _ _ h => h) (yieldsIf_load_mid (by rfl) _ _ rfl ablk 0 rfl [.int .i64 4, .string ⟨#[]⟩, mva, lva, .int .i64 0] _ (fun w' hw' => row_range (Below.row hw' HA.out)) Try.underlying28 rfl info28) hHeld ?_
  simp only [List.getElem_toArray, List.getElem_cons_succ, List.getElem_cons_zero, Act.put, List.setIfInBounds_toArray, List.set_cons_zero, List.set_cons_succ]
  refine wpAnyH_take (i := 6) rfl (by kernel_rfl) (by kernel_rfl) (by kernel_rfl) (fun _ _ _ h => h) (yieldsIf_load_mid (by rfl) _ _ rfl bblk 0 rfl [.int .i64 4, .string ⟨#[]⟩, mvb, lvb, .int .i64 500] _ (fun w' hw' => row_range (Below.row hw' HBB.out)) Try.underlying28 rfl info28) hHeld ?_
  simp only [List.getElem_toArray, List.getElem_cons_succ, List.getElem_cons_zero, Act.put, List.setIfInBounds_toArray, List.set_cons_zero, List.set_cons_succ]
  refine wpAnyH_ready (rs := [5]) (by kernel_rfl) (by simp) ?_
  refine (AllReadyH.cons rfl (fun K hK => ?_) AllReadyH.nil)
  go_simp
  refine (F2.out _ hHeld).mono ?_
  rintro e w5 ⟨c9, rfl, hc9, hb⟩
  obtain ⟨k9, t9, mv9, lv9, p9, rfl, o7, o8⟩ := At_form hc9
  have hS := Below.trans hHeld (hb.mono hHeld.size)
  have F3x := Lib.hid (F3.out _ _ w5 hS hc9)
  refine hK.out _ _ hS (fun hHeld => ?_)
  clear hK K hb hS hc9
  try simp only [List.getElem_toArray, List.getElem_cons_succ, List.getElem_cons_zero, Act.put, List.setIfInBounds_toArray, List.set_cons_zero, List.set_cons_succ]
  refine wpAnyH_ready (rs := [7]) (by kernel_rfl) (by simp) ?_
  refine (AllReadyH.cons rfl (fun K hK => ?_) AllReadyH.nil)
  go_simp
  refine F3x.out.mono ?_
  rintro e w6 ⟨rfl, hb⟩
  have hS := Below.trans hHeld (hb.mono hHeld.size)
  refine hK.out _ _ hS (fun hHeld => ?_)
  clear hK K hb hS
  try simp only [List.getElem_toArray, List.getElem_cons_succ, List.getElem_cons_zero, Act.put, List.setIfInBounds_toArray, List.set_cons_zero, List.set_cons_succ]
  refine wpAnyH_take (i := 8) (v := Value.bool true) rfl (by kernel_rfl) (by kernel_rfl) (by kernel_rfl) (fun _ _ _ h => h) (Or.inl ⟨rfl, fun w' hw' => ?_⟩) hHeld ?_
  · go_simp
  simp only [List.getElem_toArray, List.getElem_cons_succ, List.getElem_cons_zero, Act.put, List.setIfInBounds_toArray, List.set_cons_zero, List.set_cons_succ]
  refine wpAnyH_take (i := 9) (v := Value.bool true) rfl (by kernel_rfl) (by kernel_rfl) (by kernel_rfl) (fun _ _ _ h => h) (Or.inl ⟨rfl, fun w' hw' => ?_⟩) hHeld ?_
  · go_simp
  simp only [List.getElem_toArray, List.getElem_cons_succ, List.getElem_cons_zero, Act.put, List.setIfInBounds_toArray, List.set_cons_zero, List.set_cons_succ]
  refine wpAnyH_take (i := 10) rfl (by kernel_rfl) (by kernel_rfl) (by kernel_rfl) (fun _ _ _ h => h) (yieldsIf_load_mid (by rfl) _ _ rfl cblk 0 rfl [.int .i64 4, .string ⟨#[]⟩, mvc, lvc, .int .i64 pe] _ (fun w' hw' => row_range (Below.row hw' HCC.out)) Try.underlying28 rfl info28) hHeld ?_
  simp only [List.getElem_toArray, List.getElem_cons_succ, List.getElem_cons_zero, Act.put, List.setIfInBounds_toArray, List.set_cons_zero, List.set_cons_succ]
  refine wpAnyH_take (i := 11) rfl (by kernel_rfl) (by kernel_rfl) (by kernel_rfl) (fun _ _ _ h => h) (yieldsIf_load_mid (by rfl) _ _ rfl dblk 0 rfl [.int .i64 4, .string ⟨#[]⟩, mvd, .slice so sn sc, .int .i64 pe] _ (fun w' hw' => row_range (Below.row hw' HDD.out)) Try.underlying28 rfl info28) hHeld ?_
  simp only [List.getElem_toArray, List.getElem_cons_succ, List.getElem_cons_zero, Act.put, List.setIfInBounds_toArray, List.set_cons_zero, List.set_cons_succ]
  refine wpAnyH_ready (rs := [12]) (by kernel_rfl) (by simp) ?_
  refine (AllReadyH.cons rfl (fun K hK => ?_) AllReadyH.nil)
  go_simp
  refine (F4.out _ hHeld).mono ?_
  rintro e w5 ⟨rfl, hb⟩
  have hS := Below.trans hHeld (hb.mono hHeld.size)
  refine hK.out _ _ hS (fun hHeld => ?_)
  clear hK K hb hS
  try simp only [List.getElem_toArray, List.getElem_cons_succ, List.getElem_cons_zero, Act.put, List.setIfInBounds_toArray, List.set_cons_zero, List.set_cons_succ]
  refine wpAnyH_take (i := 13) (v := Value.bool true) rfl (by kernel_rfl) (by kernel_rfl) (by kernel_rfl) (fun _ _ _ h => h) (Or.inl ⟨rfl, fun w' hw' => ?_⟩) hHeld ?_
  · go_simp
  simp only [List.getElem_toArray, List.getElem_cons_succ, List.getElem_cons_zero, Act.put, List.setIfInBounds_toArray, List.set_cons_zero, List.set_cons_succ]
  refine wpAnyH_take (i := 14) (v := Value.bool true) rfl (by kernel_rfl) (by kernel_rfl) (by kernel_rfl) (fun _ _ _ h => h) (Or.inl ⟨rfl, fun w' hw' => ?_⟩) hHeld ?_
  · go_simp
  simp only [List.getElem_toArray, List.getElem_cons_succ, List.getElem_cons_zero, Act.put, List.setIfInBounds_toArray, List.set_cons_zero, List.set_cons_succ]
  refine wpAnyH_take (i := 15) (v := Value.bool true) rfl (by kernel_rfl) (by kernel_rfl) (by kernel_rfl) (fun _ _ _ h => h) (Or.inl ⟨rfl, fun w' hw' => ?_⟩) hHeld ?_
  · go_simp
  simp only [List.getElem_toArray, List.getElem_cons_succ, List.getElem_cons_zero, Act.put, List.setIfInBounds_toArray, List.set_cons_zero, List.set_cons_succ]
  refine wpAnyH_take (i := 16) rfl (by kernel_rfl) (by kernel_rfl) (by kernel_rfl) (fun _ _ _ h => h) (yieldsIf_load_mid (by rfl) _ _ rfl dblk 0 rfl [.int .i64 4, .string ⟨#[]⟩, mvd, .slice so sn sc, .int .i64 pe] _ (fun w' hw' => row_range (Below.row hw' HDD.out)) Try.underlying28 rfl info28) hHeld ?_
  simp only [List.getElem_toArray, List.getElem_cons_succ, List.getElem_cons_zero, Act.put, List.setIfInBounds_toArray, List.set_cons_zero, List.set_cons_succ]
  refine wpAnyH_take (i := 17) rfl (by kernel_rfl) (by kernel_rfl) (by kernel_rfl) (fun _ _ _ h => h) (yieldsIf_load_mid (by rfl) _ _ rfl eblk 0 rfl [.int .i64 4, .string ⟨#[]⟩, mve, .slice (some ⟨ge, 0, none⟩) en ec, .int .i64 pe] _ (fun w' hw' => row_range (Below.row hw' RE13.out)) Try.underlying28 rfl info28) hHeld ?_
  simp only [List.getElem_toArray, List.getElem_cons_succ, List.getElem_cons_zero, Act.put, List.setIfInBounds_toArray, List.set_cons_zero, List.set_cons_succ]
  refine wpAnyH_ready (rs := [18]) (by kernel_rfl) (by simp) ?_
  refine (AllReadyH.cons rfl (fun K hK => ?_) AllReadyH.nil)
  go_simp
  refine (F5.out _ hHeld).mono ?_
  rintro e w5 ⟨rfl, hb⟩
  have hS := Below.trans hHeld (hb.mono hHeld.size)
  refine hK.out _ _ hS (fun hHeld => ?_)
  clear hK K hb hS
  try simp only [List.getElem_toArray, List.getElem_cons_succ, List.getElem_cons_zero, Act.put, List.setIfInBounds_toArray, List.set_cons_zero, List.set_cons_succ]
  refine wpAnyH_take (i := 19) (v := Value.bool true) rfl (by kernel_rfl) (by kernel_rfl) (by kernel_rfl) (fun _ _ _ h => h) (Or.inl ⟨rfl, fun w' hw' => ?_⟩) hHeld ?_
  · go_simp
  simp only [List.getElem_toArray, List.getElem_cons_succ, List.getElem_cons_zero, Act.put, List.setIfInBounds_toArray, List.set_cons_zero, List.set_cons_succ]
  refine wpAnyH_take (i := 20) (v := Value.bool true) rfl (by kernel_rfl) (by kernel_rfl) (by kernel_rfl) (fun _ _ _ h => h) (Or.inl ⟨rfl, fun w' hw' => ?_⟩) hHeld ?_
  · go_simp
  simp only [List.getElem_toArray, List.getElem_cons_succ, List.getElem_cons_zero, Act.put, List.setIfInBounds_toArray, List.set_cons_zero, List.set_cons_succ]
  refine wpAnyH_take (i := 21) (v := Value.bool true) rfl (by kernel_rfl) (by kernel_rfl) (by kernel_rfl) (fun _ _ _ h => h) (Or.inl ⟨rfl, fun w' hw' => ?_⟩) hHeld ?_
  · go_simp
  simp only [List.getElem_toArray, List.getElem_cons_succ, List.getElem_cons_zero, Act.put, List.setIfInBounds_toArray, List.set_cons_zero, List.set_cons_succ]
  refine wpAnyH_take (i := 22) rfl (by kernel_rfl) (by kernel_rfl) (by kernel_rfl) (fun _ _ _ h => h) (yieldsIf_load_mid (by rfl) _ _ rfl dblk 0 rfl [.int .i64 4, .string ⟨#[]⟩, mvd, .slice so sn sc, .int .i64 pe] _ (fun w' hw' => row_range (Below.row hw' HDD.out)) Try.underlying28 rfl info28) hHeld ?_
  simp only [List.getElem_toArray, List.getElem_cons_succ, List.getElem_cons_zero, Act.put, List.setIfInBounds_toArray, List.set_cons_zero, List.set_cons_succ]
  refine wpAnyH_take (i := 24) rfl (by kernel_rfl) (by kernel_rfl) (by kernel_rfl) (fun _ _ _ h => h) (yieldsIf_load_mid (by rfl) _ _ rfl eblk 0 rfl [.int .i64 4, .string ⟨#[]⟩, mve, .slice (some ⟨ge, 0, none⟩) en ec, .int .i64 pe] _ (fun w' hw' => row_range (Below.row hw' RE13.out)) Try.underlying28 rfl info28) hHeld ?_
  simp only [List.getElem_toArray, List.getElem_cons_succ, List.getElem_cons_zero, Act.put, List.setIfInBounds_toArray, List.set_cons_zero, List.set_cons_succ]
  refine wpAnyH_ready (rs := [23]) (by kernel_rfl) (by simp) ?_
  refine (AllReadyH.cons rfl (fun K hK => ?_) AllReadyH.nil)
  go_simp
  refine (F6.out _ hHeld).mono ?_
  rintro e w7 ⟨c9, rfl, hcd, hb⟩
  obtain ⟨kd9, td9, mvd9, lvd9, pd9, rfl, o7, o8⟩ := At_form hcd
  have hS := Below.trans hHeld (hb.mono hHeld.size)
  have ATD := Lib.hid hcd
  refine hK.out _ _ hS (fun hHeld => ?_)
  clear hK K hb hS hcd
  try simp only [List.getElem_toArray, List.getElem_cons_succ, List.getElem_cons_zero, Act.put, List.setIfInBounds_toArray, List.set_cons_zero, List.set_cons_succ]
  refine wpAnyH_ready (rs := [25]) (by kernel_rfl) (by simp) ?_
  refine (AllReadyH.cons rfl (fun K hK => ?_) AllReadyH.nil)
  go_simp
  refine (F7.out _ hHeld).mono ?_
  rintro e w8 ⟨c9, rfl, hce, hb⟩
  obtain ⟨ke9, te9, mve9, lve9, pe9, rfl, o7, o8⟩ := At_form hce
  have hS := Below.trans hHeld (hb.mono hHeld.size)
  have F8x := Lib.hid (F8.out _ _ _ _ w8 (Dt.At.keeps (Keeps.of_below hb) _ _ ATD.out) hce)
  refine hK.out _ _ hS (fun hHeld => ?_)
  clear hK K hb hS hce
  try simp only [List.getElem_toArray, List.getElem_cons_succ, List.getElem_cons_zero, Act.put, List.setIfInBounds_toArray, List.set_cons_zero, List.set_cons_succ]
  refine wpAnyH_ready (rs := [26]) (by kernel_rfl) (by simp) ?_
  refine (AllReadyH.cons rfl (fun K hK => ?_) AllReadyH.nil)
  go_simp
  refine F8x.out.mono ?_
  rintro e w6 ⟨rfl, hb⟩
  have hS := Below.trans hHeld (hb.mono hHeld.size)
  refine hK.out _ _ hS (fun hHeld => ?_)
  clear hK K hb hS
  try simp only [List.getElem_toArray, List.getElem_cons_succ, List.getElem_cons_zero, Act.put, List.setIfInBounds_toArray, List.set_cons_zero, List.set_cons_succ]
  refine wpAnyH_take (i := 27) (v := Value.bool true) rfl (by kernel_rfl) (by kernel_rfl) (by kernel_rfl) (fun _ _ _ h => h) (Or.inl ⟨rfl, fun w' hw' => ?_⟩) hHeld ?_
  · go_simp
  simp only [List.getElem_toArray, List.getElem_cons_succ, List.getElem_cons_zero, Act.put, List.setIfInBounds_toArray, List.set_cons_zero, List.set_cons_succ]
  refine wpAnyH_take (i := 28) (v := Value.bool true) rfl (by kernel_rfl) (by kernel_rfl) (by kernel_rfl) (fun _ _ _ h => h) (Or.inl ⟨rfl, fun w' hw' => ?_⟩) hHeld ?_
  · go_simp
  simp only [List.getElem_toArray, List.getElem_cons_succ, List.getElem_cons_zero, Act.put, List.setIfInBounds_toArray, List.set_cons_zero, List.set_cons_succ]
  refine wpAnyH_take (i := 29) rfl (by kernel_rfl) (by kernel_rfl) (by kernel_rfl) (fun _ _ _ h => h) (yieldsIf_load_mid (by rfl) _ _ rfl bblk 0 rfl [.int .i64 4, .string ⟨#[]⟩, mvb, lvb, .int .i64 500] _ (fun w' hw' => row_range (Below.row hw' HBB.out)) Try.underlying28 rfl info28) hHeld ?_
  simp only [List.getElem_toArray, List.getElem_cons_succ, List.getElem_cons_zero, Act.put, List.setIfInBounds_toArray, List.set_cons_zero, List.set_cons_succ]
  refine wpAnyH_take (i := 30) rfl (by kernel_rfl) (by kernel_rfl) (by kernel_rfl) (fun _ _ _ h => h) (yieldsIf_load_mid (by rfl) _ _ rfl ablk 0 rfl [.int .i64 4, .string ⟨#[]⟩, mva, lva, .int .i64 0] _ (fun w' hw' => row_range (Below.row hw' HA.out)) Try.underlying28 rfl info28) hHeld ?_
  simp only [List.getElem_toArray, List.getElem_cons_succ, List.getElem_cons_zero, Act.put, List.setIfInBounds_toArray, List.set_cons_zero, List.set_cons_succ]
  refine wpAnyH_take (i := 32) rfl (by kernel_rfl) (by kernel_rfl) (by kernel_rfl) (fun _ _ _ h => h) (yieldsIf_load_mid (by rfl) _ _ rfl ablk 0 rfl [.int .i64 4, .string ⟨#[]⟩, mva, lva, .int .i64 0] _ (fun w' hw' => row_range (Below.row hw' HA.out)) Try.underlying28 rfl info28) hHeld ?_
  simp only [List.getElem_toArray, List.getElem_cons_succ, List.getElem_cons_zero, Act.put, List.setIfInBounds_toArray, List.set_cons_zero, List.set_cons_succ]
  refine wpAnyH_take (i := 33) rfl (by kernel_rfl) (by kernel_rfl) (by kernel_rfl) (fun _ _ _ h => h) (yieldsIf_load_mid (by rfl) _ _ rfl bblk 0 rfl [.int .i64 4, .string ⟨#[]⟩, mvb, lvb, .int .i64 500] _ (fun w' hw' => row_range (Below.row hw' HBB.out)) Try.underlying28 rfl info28) hHeld ?_
  simp only [List.getElem_toArray, List.getElem_cons_succ, List.getElem_cons_zero, Act.put, List.setIfInBounds_toArray, List.set_cons_zero, List.set_cons_succ]
  refine wpAnyH_ready (rs := [31]) (by kernel_rfl) (by simp) ?_
  refine (AllReadyH.cons rfl (fun K hK => ?_) AllReadyH.nil)
  go_simp
  refine (F9.out _ hHeld).mono ?_
  rintro e w5 ⟨rfl, hb⟩
  have hS := Below.trans hHeld (hb.mono hHeld.size)
  refine hK.out _ _ hS (fun hHeld => ?_)
  clear hK K hb hS
  try simp only [List.getElem_toArray, List.getElem_cons_succ, List.getElem_cons_zero, Act.put, List.setIfInBounds_toArray, List.set_cons_zero, List.set_cons_succ]
  refine wpAnyH_ready (rs := [34]) (by kernel_rfl) (by simp) ?_
  refine (AllReadyH.cons rfl (fun K hK => ?_) AllReadyH.nil)
  go_simp
  refine (F10.out _ hHeld).mono ?_
  rintro e w5 ⟨rfl, hb⟩
  have hS := Below.trans hHeld (hb.mono hHeld.size)
  refine hK.out _ _ hS (fun hHeld => ?_)
  clear hK K hb hS
  try simp only [List.getElem_toArray, List.getElem_cons_succ, List.getElem_cons_zero, Act.put, List.setIfInBounds_toArray, List.set_cons_zero, List.set_cons_succ]
  refine wpAnyH_take (i := 35) (v := Value.bool true) rfl (by kernel_rfl) (by kernel_rfl) (by kernel_rfl) (fun _ _ _ h => h) (Or.inl ⟨rfl, fun w' hw' => ?_⟩) hHeld ?_
  · go_simp
  simp only [List.getElem_toArray, List.getElem_cons_succ, List.getElem_cons_zero, Act.put, List.setIfInBounds_toArray, List.set_cons_zero, List.set_cons_succ]
  refine wpAnyH_take (i := 36) (v := Value.bool true) rfl (by kernel_rfl) (by kernel_rfl) (by kernel_rfl) (fun _ _ _ h => h) (Or.inl ⟨rfl, fun w' hw' => ?_⟩) hHeld ?_
  · go_simp
  simp only [List.getElem_toArray, List.getElem_cons_succ, List.getElem_cons_zero, Act.put, List.setIfInBounds_toArray, List.set_cons_zero, List.set_cons_succ]
  refine wpAnyH_take (i := 37) (v := Value.bool true) rfl (by kernel_rfl) (by kernel_rfl) (by kernel_rfl) (fun _ _ _ h => h) (Or.inl ⟨rfl, fun w' hw' => ?_⟩) hHeld ?_
  · go_simp
  simp only [List.getElem_toArray, List.getElem_cons_succ, List.getElem_cons_zero, Act.put, List.setIfInBounds_toArray, List.set_cons_zero, List.set_cons_succ]
  refine wpAnyH_done (by kernel_rfl) ?_ _
  refine NoPanic.normal ?_
  have HS := Lib.hid hHeld
  clear hHeld
  go_wp2
  go_ret
  exact ⟨rfl, (B0.out.trans ((BW.out.trans (HS.out.mono BW.out.size)).mono B0.out.size))⟩
end Go.Proofs.Ytlkpddokmibkiaa
