/- The walk of DatumOwn. -/
import Derived.Test.YtlkpddokmibkiaaP5
import Derived.Test.YtlkpddokmibkiaaC4
import Derived.Test.YtlkpddokmibkiaaN4
namespace Go.Proofs.Ytlkpddokmibkiaa
open Go.RowKit
set_option linter.unusedVariables false
set_option linter.unusedSimpArgs false

theorem Sh2.form {S : Nat → Prop} {w : World} {lv : Value} {n : Nat} (h : Sh2 S w lv n) : ∃ lo c, lv = .slice lo n c := by
  rcases h with ⟨rfl, rfl⟩ | ⟨g, arr, rfl, _⟩
  · exact ⟨_, _, rfl⟩
  · exact ⟨_, _, rfl⟩
theorem Sh1.form {S : Nat → Prop} {w : World} {lv : Value} {n : Nat} (h : Sh1 S w lv n) : ∃ lo c, lv = .slice lo n c := by
  rcases h with ⟨rfl, rfl⟩ | ⟨g, arr, rfl, _⟩
  · exact ⟨_, _, rfl⟩
  · exact ⟨_, _, rfl⟩
theorem Sh1.at {S : Nat → Prop} {w : World} {lo : Option Addr} {n c : Nat} (h : Sh1 S w (.slice lo n c) n) {k : Nat} (hk : k < n) :
    ∃ g, lo = some ⟨g, 0, none⟩ ∧ S g ∧ ∀ i, i < 5 → (∃ v, w.cell? ⟨g, k * 5 + i, none⟩ = some v) ∧ w.frozen? ⟨g, k * 5 + i, none⟩ = false := by
  rcases h with ⟨_, rfl⟩ | ⟨g, arr, e, h2, h3, h4, _⟩
  · omega
  · injection e with e1 e2 e3
    refine ⟨g, e1, h2, fun i hi => ⟨⟨_, by rw [Lib.cell_of_heap h3]; exact Array.getElem?_eq_getElem (show k * 5 + i < arr.size by omega)⟩, frozen_of_row w g _ arr 28 h3⟩⟩
theorem Sh1.short {S : Nat → Prop} {w : World} {lv : Value} {n : Nat} (h : Sh1 S w lv n) : n ≤ 1000000 := by
  rcases h with ⟨_, rfl⟩ | ⟨g, arr, _, _, _, _, h⟩
  · omega
  · exact h
theorem Sh2.get {S : Nat → Prop} {w : World} {lo : Option Addr} {n c : Nat} (h : Sh2 S w (.slice lo n c) n) {i : Nat} (hi : i < n) :
    ∃ g li ni, lo = some ⟨g, 0, none⟩ ∧ S g ∧ (∃ arr, w.heap[g]? = some (.cells arr 28 (0, 0))) ∧ w.cell? ⟨g, i * 5 + 3, none⟩ = some li ∧ Sh1 S w li ni := by
  rcases h with ⟨_, rfl⟩ | ⟨g, arr, e, h2, h3, h4, _, h5⟩
  · omega
  · injection e with e1 e2 e3
    obtain ⟨li, ni, e, hs⟩ := h5 i hi
    exact ⟨g, li, ni, e1, h2, ⟨arr, h3⟩, by rw [Lib.cell_of_heap h3]; show arr[i * 5 + 3]? = _; rw [show i * 5 + 3 = 5 * i + 3 by omega]; exact e, hs⟩
theorem cell_set_ne {w : World} {g o b o' : Nat} {arr : Array Value} {v u : Value} (hg : w.heap[g]? = some (.cells arr 28 (0, 0))) (h : w.cell? ⟨g, o, none⟩ = some v) (hne : o ≠ o') : (w.setCell ⟨b, o', none⟩ u).cell? ⟨g, o, none⟩ = some v := by
  by_cases hb : g = b
  · subst hb
    rw [Lib.cell_of_heap (heap_setCell_same w g o' arr 28 u hg)]
    rw [Lib.cell_of_heap hg] at h
    show (arr.setIfInBounds o' u)[o]? = _
    rw [Array.getElem?_setIfInBounds_ne (fun e => hne e.symm)]; exact h
  · rw [World.cell?_of_block (w := w) (by show (w.setCell ⟨b, o', none⟩ u).heap[g]? = w.heap[g]?; exact heap_setCell_other _ _ _ _ hb)]; exact h
def SP (W5 : World) (pblk : Nat) : Nat → Prop := fun x => W5.heap.size ≤ x ∧ x ≠ pblk
/-- So many parts' texts, and their parts' kinds, are written over. -/
def OInv (lv : Value) (n pblk : Nat) (rowp : Array Value) (W5 : World) (iv : Value) (wr : World) : Prop :=
  ∃ i : Nat, i ≤ n ∧ iv = .int .i64 i ∧ Below W5.heap.size W5 wr ∧ wr.heap[pblk]? = some (.cells rowp 28 (0, 0)) ∧ Sh2 (SP W5 pblk) wr lv n
def KInv (lv : Value) (n pblk : Nat) (rowp : Array Value) (W5 : World) (g o ni : Nat) (li : Value) (kv : Value) (wr : World) : Prop :=
  ∃ k : Nat, k ≤ ni ∧ kv = .int .i64 k ∧ Below W5.heap.size W5 wr ∧ wr.heap[pblk]? = some (.cells rowp 28 (0, 0)) ∧ Sh2 (SP W5 pblk) wr lv n ∧ (∃ arr, wr.heap[g]? = some (.cells arr 28 (0, 0))) ∧ wr.cell? ⟨g, o, none⟩ = some li ∧ Sh1 (SP W5 pblk) wr li ni
theorem KInv.more {lv : Value} {n pblk : Nat} {rowp : Array Value} {W5 : World} {g o ni : Nat} {li : Value} {wr : World} {k b o' : Nat} (u : Value) (hk : k < ni) (hb : Below W5.heap.size W5 wr) (hp : wr.heap[pblk]? = some (.cells rowp 28 (0, 0))) (hs : Sh2 (SP W5 pblk) wr lv n)
    (hg : ∃ arr, wr.heap[g]? = some (.cells arr 28 (0, 0))) (hc : wr.cell? ⟨g, o, none⟩ = some li) (h1 : Sh1 (SP W5 pblk) wr li ni) (hS : SP W5 pblk b) (ho : o % 5 = 3) (ho' : o' % 5 = 0) : KInv lv n pblk rowp W5 g o ni li (.int .i64 ((k : Int) + 1)) (wr.setCell ⟨b, o', none⟩ u) := by
  obtain ⟨arr, hga⟩ := hg
  refine ⟨k + 1, by omega, by congr 1, hb.setCell (p := ⟨b, o', none⟩) hS.1 _, by rw [heap_setCell_other _ _ _ _ (fun e => hS.2 e.symm)]; exact hp, hs.set _ _ _ (by omega), ?_, cell_set_ne hga hc (by omega), h1.set _ _ _⟩
  by_cases e : g = b
  · subst e; exact ⟨_, heap_setCell_same wr g o' arr 28 u hga⟩
  · exact ⟨arr, by rw [heap_setCell_other _ _ _ _ e]; exact hga⟩

set_option maxHeartbeats 4000000 in
theorem own_walk (l : List Rw) (ao : Option Addr) (ac : Nat) (bo : Option Addr) (bl bc : Nat) (zs : List Int) (w : World) (hR : RsAt w ao l) (hN : IsRow .i64 w bo bl bc zs) :
    Calls Try.prog 7 #[.slice ao l.length ac, .slice bo bl bc] w fun e w' => e = .returned (.bool true) ∧ Below w.heap.size w w' := by
  have HR := Lib.hid hR
  have HN := Lib.hid hN
  clear hR hN
  go_enter Try.func7, Try.ntmps7
  go_wp2_with fail
  refine (known_any _).mono ?_
  rintro e w0 ⟨rfl, hb0⟩
  have B0 := Lib.hid hb0
  have R0 := Lib.hid (HR.out.below hb0)
  clear hb0
  go_wp2_with fail
  refine (few_any l ao ac w0 R0.out).mono ?_
  rintro e w' ⟨r, rfl, hfew, rfl⟩
  cases r with
  | false =>
    clear hfew
    go_wp2
    go_ret
    exact ⟨rfl, B0.out⟩
  | true =>
    have hc := hfew rfl
    clear hfew
    have HC := Lib.hid hc
    clear hc
    go_wp2_with fail
    have hbc : Below w0.heap.size w0 (w0.alloc (.cells #[.int .i64 0] 3)) := (Below.refl _ _).alloc (Nat.le_refl _) _
    have g0 := alloc_at w0 (.cells #[.int .i64 0] 3)
    have hsc : (w0.alloc (.cells #[.int .i64 0] 3)).heap.size = w0.heap.size + 1 := by simp
    generalize w0.alloc (.cells #[.int .i64 0] 3) = WC at hbc g0 hsc ⊢
    refine (all_any l (by have := HC.out; omega) ao ac WC (R0.out.below hbc)).mono ?_
    rintro e w1 ⟨dv, rfl, hown, hb1⟩
    have g1 : w1.heap[w0.heap.size]? = some (.cells #[.int .i64 0] 3 (0, 0)) := by rw [hb1.block _ (by omega)]; exact g0
    have hb01 : Below w0.heap.size w0 w1 := hbc.trans (hb1.mono (by omega))
    have sg1 := ((Sg.of_row HN.out (g := w0.heap.size) B0.out.size).but (But.of B0.out)).but (But.of hb01)
    obtain ⟨dao, dcap, rfl⟩ := hown.at.form
    obtain ⟨dn, hdn⟩ : ∃ dn, dn = (Rw.makes l).length := ⟨_, rfl⟩
    rw [← hdn] at hown ⊢
    clear hdn
    obtain ⟨d, hd⟩ : ∃ d, d = Dt.mk 4 ⟨#[]⟩ [] (Rw.makes l) 0 := ⟨_, rfl⟩
    have zs1 : d.size ≤ 61 := by have := makes_size l; have := HC.out; rw [hd]; simp only [Dt.size]; omega
    have zt1 : d.txt.length ≤ 2470 := by
      have h1 := makes_txt l
      have := HC.out
      have h2 := txts_txtr (Rw.makes l)
      rw [hd]; simp only [Dt.txt, if_true, List.length_cons, List.length_append, List.length_nil]; omega
    have hat := list_at2 hown.at
    rw [← hd] at hat
    have hat' : Dt.At (fun b => b ≠ w0.heap.size) w1 d #[.int .i64 4, .string ⟨#[]⟩, .slice none 0 0, .slice dao dn dcap, .int .i64 0] := Dt.At.mono (fun b (hb : WC.heap.size ≤ b) => by omega) _ _ hat
    have F0 := Lib.hid (mark_any 1000000 (Nat.le_refl _) d (by omega) (zs.take bl) w0.heap.size 0 _ bo bl bc w1 hat' sg1 g1 (by omega))
    have o1 := hown.at.one
    have ZS := Lib.hid zs1
    have ZT := Lib.hid zt1
    have B1 := Lib.hid (B0.out.trans (hb01.mono B0.out.size))
    have G01 := Lib.hid hb01
    clear hown hb1 hd hat hat' sg1 g1 hb01 g0 hbc zs1 zt1
    go_wp2_with fail
    refine F0.out.mono ?_
    rintro e w2 ⟨ca, rfl, hat, hb2, -⟩
    obtain ⟨ka, ta, mva, lva, pa, rfl, o3, o4⟩ := At_form hat
    have za : (d.mark (zs.take bl) 0).size ≤ 61 := by rw [mark_size]; exact ZS.out
    have zta : (d.mark (zs.take bl) 0).txt.length ≤ 2470 := by rw [mark_txt]; exact ZT.out
    generalize d.mark (zs.take bl) 0 = da at hat za zta
    have hb02 : Below w0.heap.size w0 w2 := by
      have h1 := G01.out
      exact ⟨hb2.os.trans h1.os, hb2.tape.trans h1.tape, hb2.output.trans h1.output, Nat.le_trans h1.size hb2.size, fun k hk => (hb2.block k (by have := h1.size; omega) (by omega)).trans (h1.block k hk)⟩
    have B2 := Lib.hid (B0.out.trans (hb02.mono B0.out.size))
    clear F0 hb2 hb02 ZS ZT G01
    have z1 : (#[.int .i64 ka, .string ta, mva, lva, .int .i64 pa] : Array Value).all (·.oneCell') = true := by simp [Value.oneCell'] at o3 o4 ⊢; exact ⟨o3, o4⟩
    go_upto_region 7 with (refine wpList_store_row rfl 28 _ _ rfl w2.heap.size #[.int .i64 ka, .string ta, mva, lva, .int .i64 pa] rfl rfl 28 Z5 (alloc_at _ _) info28 rfl z1 ?_)
    simp only [Act.put]
    try rw [show (w2.alloc (.cells #[.int .i64 0, .string ⟨#[]⟩, .slice none 0 0, .slice none 0 0, .int .i64 0] 28)).setRow w2.heap.size #[.int .i64 ka, .string ta, mva, lva, .int .i64 pa] = w2.alloc (.cells #[.int .i64 ka, .string ta, mva, lva, .int .i64 pa] 28) from setRow_new _ _ _ _]
    have h3 := alloc_at w2 (.cells #[.int .i64 ka, .string ta, mva, lva, .int .i64 pa] 28)
    have b3 : Below w2.heap.size w2 (w2.alloc (.cells #[.int .i64 ka, .string ta, mva, lva, .int .i64 pa] 28)) := (Below.refl _ _).alloc (Nat.le_refl _) _
    have at3 := Dt.At.keeps (Keeps.of_below b3) _ _ hat
    generalize w2.alloc (.cells #[.int .i64 ka, .string ta, mva, lva, .int .i64 pa] 28) = W3 at h3 b3 at3 ⊢
    have B3 := Lib.hid (B2.out.trans (b3.mono B2.out.size))
    have FC := Lib.hid (copy_any 1000000 (Nat.le_refl _) da (by omega) _ _ W3 at3)
    have H3 := Lib.hid h3
    have AT3 := Lib.hid at3
    obtain ⟨ablk, hablk⟩ : ∃ x, x = w2.heap.size := ⟨_, rfl⟩
    rw [← hablk] at H3 ⊢
    clear h3 b3 at3 hat z1 B2 hsc hablk
    go_wp2_with (refine wpList_load_row rfl 28 _ rfl ablk rfl 28 #[.int .i64 ka, .string ta, mva, lva, .int .i64 pa] (0, 0) _ H3.out Try.underlying28 rfl info28 ?_)
    refine FC.out.mono ?_
    rintro e w4 ⟨kb, tb, mvb, lvb, pb, rfl, hatb, -, hb4⟩
    have o5 := (At_one hatb).1
    have o6 := (At_one hatb).2
    have z1 : (#[.int .i64 kb, .string tb, mvb, lvb, .int .i64 pb] : Array Value).all (·.oneCell') = true := by simp [Value.oneCell'] at o5 o6 ⊢; exact ⟨o5, o6⟩
    go_upto_region 8 with (refine wpList_store_row rfl 28 _ _ rfl w4.heap.size #[.int .i64 kb, .string tb, mvb, lvb, .int .i64 pb] rfl rfl 28 Z5 (alloc_at _ _) info28 rfl z1 ?_)
    simp only [Act.put]
    try rw [show (w4.alloc (.cells #[.int .i64 0, .string ⟨#[]⟩, .slice none 0 0, .slice none 0 0, .int .i64 0] 28)).setRow w4.heap.size #[.int .i64 kb, .string tb, mvb, lvb, .int .i64 pb] = w4.alloc (.cells #[.int .i64 kb, .string tb, mvb, lvb, .int .i64 pb] 28) from setRow_new _ _ _ _]
    have h5 := alloc_at w4 (.cells #[.int .i64 kb, .string tb, mvb, lvb, .int .i64 pb] 28)
    have b5 : Below w4.heap.size w4 (w4.alloc (.cells #[.int .i64 kb, .string tb, mvb, lvb, .int .i64 pb] 28)) := (Below.refl _ _).alloc (Nat.le_refl _) _
    have at5 := Dt.At.keeps (Keeps.of_below b5) _ _ hatb
    have at5a := Dt.At.keeps (Keeps.of_below b5) _ _ (Dt.At.keeps (Keeps.of_below hb4) _ _ AT3.out)
    have h5a := Below.row b5 (Below.row hb4 H3.out)
    generalize w4.alloc (.cells #[.int .i64 kb, .string tb, mvb, lvb, .int .i64 pb] 28) = W5 at h5 b5 at5 at5a h5a ⊢
    have B5 := Lib.hid (B3.out.trans ((hb4.trans (b5.mono hb4.size)).mono B3.out.size))
    have HB5 := Lib.hid h5
    have HA5 := Lib.hid h5a
    have ATA := Lib.hid at5a
    have ATB := Lib.hid at5
    have FP := Lib.hid (plainS_any 1000000 (Nat.le_refl _) da (by omega) _ _ W5 at5a)
    obtain ⟨bblk, hbblk⟩ : ∃ x, x = w4.heap.size := ⟨_, rfl⟩
    rw [← hbblk] at HB5 ⊢
    clear h5 b5 at5 at5a h5a z1 hb4 hatb hbblk FC AT3 H3
    go_wp2_with (refine wpList_load_row rfl 28 _ rfl ablk rfl 28 #[.int .i64 ka, .string ta, mva, lva, .int .i64 pa] (0, 0) _ HA5.out Try.underlying28 rfl info28 ?_)
    refine FP.out.mono ?_
    rintro e w6 ⟨kp, tp, mvp, lvp, pp, rfl, hatp, hsh, hb6⟩
    have o7 := (At_one hatp).1
    obtain ⟨lo, c, rfl⟩ := hsh.form
    obtain ⟨n, hn⟩ : ∃ n, n = da.parts.length := ⟨_, rfl⟩
    rw [← hn] at hsh hatp ⊢
    have hnz : n ≤ 61 := by
      rw [hn]
      obtain ⟨_, _, _, ll, _⟩ := da
      have := length_sizes ll
      simp only [Dt.size] at za
      simp only [Dt.parts]; omega
    clear hn
    have z1 : (#[.int .i64 kp, .string tp, mvp, .slice lo n c, .int .i64 pp] : Array Value).all (·.oneCell') = true := by simp [Value.oneCell'] at o7 ⊢; exact o7
    go_upto_region 9 with (refine wpList_store_row rfl 28 _ _ rfl w6.heap.size #[.int .i64 kp, .string tp, mvp, .slice lo n c, .int .i64 pp] rfl rfl 28 Z5 (alloc_at _ _) info28 rfl z1 ?_)
    try simp only [Act.put]
    try rw [show (w6.alloc (.cells #[.int .i64 0, .string ⟨#[]⟩, .slice none 0 0, .slice none 0 0, .int .i64 0] 28)).setRow w6.heap.size #[.int .i64 kp, .string tp, mvp, .slice lo n c, .int .i64 pp] = w6.alloc (.cells #[.int .i64 kp, .string tp, mvp, .slice lo n c, .int .i64 pp] 28) from setRow_new _ _ _ _]
    have h7 := alloc_at w6 (.cells #[.int .i64 kp, .string tp, mvp, .slice lo n c, .int .i64 pp] 28)
    have b7 : Below w6.heap.size w6 (w6.alloc (.cells #[.int .i64 kp, .string tp, mvp, .slice lo n c, .int .i64 pp] 28)) := (Below.refl _ _).alloc (Nat.le_refl _) _
    obtain ⟨pblk, hpblk⟩ : ∃ x, x = w6.heap.size := ⟨_, rfl⟩
    have hs7 : Sh2 (SP W5 pblk) (w6.alloc (.cells #[.int .i64 kp, .string tp, mvp, .slice lo n c, .int .i64 pp] 28)) (.slice lo n c) n := (Sh2.mono (T := fun x => SP W5 pblk x ∧ x < w6.heap.size) hsh.bound (fun x hx => ⟨⟨hx.1, by have := hx.2; omega⟩, hx.2⟩)).keep (fun x cc hx hh => by rw [b7.block x hx.2]; exact hh) |>.mono (fun x hx => hx.1)
    have b57 : Below W5.heap.size W5 (w6.alloc (.cells #[.int .i64 kp, .string tp, mvp, .slice lo n c, .int .i64 pp] 28)) := hb6.trans (b7.mono hb6.size)
    generalize w6.alloc (.cells #[.int .i64 kp, .string tp, mvp, .slice lo n c, .int .i64 pp] 28) = W7 at h7 hs7 b57 ⊢
    rw [← hpblk] at h7 ⊢
    have HI : OInv (.slice lo n c) n pblk #[.int .i64 kp, .string tp, mvp, .slice lo n c, .int .i64 pp] W5 (.int .i64 0) W7 := ⟨0, Nat.zero_le _, rfl, b57, h7, hs7⟩
    replace HI := Lib.hid HI
    clear h7 b7 hs7 b57 hpblk hsh hb6 hatp z1 FP
    go_wp2_with fail
    go_loopw [9] (fun iv wr => OInv (.slice lo n c) n pblk #[.int .i64 kp, .string tp, mvp, .slice lo n c, .int .i64 pp] W5 iv wr) (fun iv _ => n - (intOf iv).toNat)
    case atStart => exact HI.out
    case round =>
      clear HI
      obtain ⟨i, hi, rfl, hbw, hp, hs⟩ := hrel
      have cp : wr.cell? ⟨pblk, 3, none⟩ = some (.slice lo n c) := by rw [Lib.cell_of_heap hp]; rfl
      have BW := Lib.hid hbw
      have HP := Lib.hid hp
      have HS := Lib.hid hs
      clear hbw hp hs
      by_cases hlt : i < n
      · have q1 : decide ((i : Int) < (n : Int)) = true := decide_eq_true (by omega)
        obtain ⟨g, li, ni, rfl, hSg, hga, hcl, h1⟩ := HS.out.get hlt
        obtain ⟨g', e', -, hcf⟩ := HS.out.to1.at hlt
        injection e' with e'
        injection e' with e' _ _
        subst e'
        obtain ⟨⟨v1, c1⟩, f1⟩ := hcf 1 (by decide)
        obtain ⟨lio, lic, rfl⟩ := h1.form
        have hni := h1.short
        obtain ⟨W8, hW8⟩ : ∃ W8, W8 = wr.setCell ⟨g, i * 5 + 1, none⟩ (.string ⟨#[113]⟩) := ⟨_, rfl⟩
        have hK : KInv (.slice (some ⟨g, 0, none⟩) n c) n pblk #[.int .i64 kp, .string tp, mvp, .slice (some ⟨g, 0, none⟩) n c, .int .i64 pp] W5 g (i * 5 + 3) ni (.slice lio ni lic) (.int .i64 0) W8 := by
          obtain ⟨arr, hga⟩ := hga
          rw [hW8]
          exact ⟨0, Nat.zero_le _, rfl, BW.out.setCell (p := ⟨g, i * 5 + 1, none⟩) hSg.1 _, by rw [heap_setCell_other _ _ _ _ (fun e => hSg.2 e.symm)]; exact HP.out, HS.out.set _ _ _ (by omega), ⟨_, heap_setCell_same wr g _ arr 28 _ hga⟩, cell_set_ne hga hcl (by omega), h1.set _ _ _⟩
        have HK := Lib.hid hK
        have HW8 := Lib.hid hW8
        clear hcf hcl h1 hK hga hW8
        go_wp2_with fail
        rw [← HW8.out]
        clear c1 f1 cp HW8 HS HP BW q1
        go_loopw [10] (fun kv wr => KInv (.slice (some ⟨g, 0, none⟩) n c) n pblk #[.int .i64 kp, .string tp, mvp, .slice (some ⟨g, 0, none⟩) n c, .int .i64 pp] W5 g (i * 5 + 3) ni (.slice lio ni lic) kv wr) (fun kv _ => ni - (intOf kv).toNat)
        case atStart => exact HK.out
        case round =>
          clear HK
          obtain ⟨k, hk, rfl, hbw, hp, hs, hga, hcl, h1⟩ := hrel
          have cp : wr.cell? ⟨pblk, 3, none⟩ = some (.slice (some ⟨g, 0, none⟩) n c) := by rw [Lib.cell_of_heap hp]; rfl
          have CL := Lib.hid hcl
          by_cases hkl : k < ni
          · have q1 : decide ((k : Int) < (ni : Int)) = true := decide_eq_true (by omega)
            obtain ⟨gi, rfl, hSi, hcf⟩ := h1.at hkl
            obtain ⟨⟨v0, c0⟩, f0⟩ := hcf 0 (by decide)
            rw [Nat.add_zero] at c0 f0
            have HM := Lib.hid (KInv.more (.int .i64 0) hkl hbw hp hs hga hcl h1 hSi (by omega) (show (k * 5) % 5 = 0 by omega))
            clear hbw hp hs hga h1 hcf
            go_wp2_with fail
            go_roundw
            case rel => exact HM.out
            case measure => simp [intOf]; omega
          · obtain rfl : k = ni := by omega
            have q1 : decide ((k : Int) < (k : Int)) = false := decide_eq_false (by omega)
            have HO : Hid (OInv (.slice (some ⟨g, 0, none⟩) n c) n pblk #[.int .i64 kp, .string tp, mvp, .slice (some ⟨g, 0, none⟩) n c, .int .i64 pp] W5 (.int .i64 ((i : Int) + 1)) wr) := ⟨i + 1, by omega, by go_num, hbw, hp, hs⟩
            clear hbw hp hs hga h1
            go_wp2_with fail
            go_roundw
            case rel => exact HO.out
            case measure => simp [intOf]; omega
      · obtain rfl : i = n := by omega
        have q1 : decide ((i : Int) < (i : Int)) = false := decide_eq_false (by omega)
        have HA9 := Lib.hid (Below.row BW.out HA5.out)
        have HB9 := Lib.hid (Below.row BW.out HB5.out)
        have FX := Lib.hid (places_refl 1000000 (by decide) da (by omega) _ _ _ _ wr (Dt.At.keeps (Keeps.of_below BW.out) _ _ ATA.out) (Dt.At.keeps (Keeps.of_below BW.out) _ _ ATB.out))
        have B9 := Lib.hid (B5.out.trans (BW.out.mono B5.out.size))
        go_wp2_with (first | (refine wpList_load_row rfl 28 _ rfl ablk rfl 28 #[.int .i64 ka, .string ta, mva, lva, .int .i64 pa] (0, 0) _ HA9.out Try.underlying28 rfl info28 ?_) | (refine wpList_load_row rfl 28 _ rfl bblk rfl 28 #[.int .i64 kb, .string tb, mvb, lvb, .int .i64 pb] (0, 0) _ HB9.out Try.underlying28 rfl info28 ?_))
        refine FX.out.mono ?_
        rintro e wz ⟨rfl, hbz⟩
        have BZ := Lib.hid (B9.out.trans (hbz.mono B9.out.size))
        clear hbz
        go_wp2_with fail
        go_ret
        exact ⟨rfl, BZ.out⟩
end Go.Proofs.Ytlkpddokmibkiaa
