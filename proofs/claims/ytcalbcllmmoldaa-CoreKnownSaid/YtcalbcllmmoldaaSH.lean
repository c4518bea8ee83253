/- The walk of CoreShapes. -/
import Derived.Test.YtcalbcllmmoldaaOW
import Derived.Test.YtcalbcllmmoldaaR4
import Derived.ChangeSame
namespace Go.Proofs.Ytcalbcllmmoldaa
open Go.RowKit
set_option linter.unusedVariables false
set_option linter.unusedSimpArgs false
theorem OwnA.setCell {B : Nat} {w : World} {v : Value} {ds : List Et} (h : OwnA B w v ds) {a : Addr} (ha : a.block < B) (u : Value) : OwnA B (w.setCell a u) v ds := by
  obtain ⟨xs, hown, hd⟩ := h
  refine ⟨xs, ownsRow_setCell_below hown ha u, fun j hj => ?_⟩
  obtain ⟨cs, h5, h1, h2⟩ := hd j hj
  refine ⟨cs, h5, h1, Et.At.keeps ?_ _ _ h2⟩
  intro g c T fz hs hg _
  have : B ≤ g := hs.1
  exact ⟨fz, by rw [heap_setCell_other w a g u (by omega)]; exact hg⟩
theorem setRow_new_at (A : World) (z cs : Array Value) (T : TypeId) (m : Nat) (h : A.heap.size = m) : (A.alloc (.cells z T)).setRow m cs = A.alloc (.cells cs T) := by
  subst h; exact setRow_new A z cs T
theorem add_block (b : Addr) (n : Nat) : (b.add n).block = b.block := by unfold Addr.add; split <;> rfl
/-- A round of a loop that appends a term. -/
theorem all_more {ds : List Et} {B : Nat} {wr w7 : World} {v : Value} {d : Et} (hown : OwnA B wr v ds) (hl : ds.length ≤ 1000000) (hB : B ≤ wr.heap.size)
    {cs : Array Value} (hat : Et.At (fun g => wr.heap.size ≤ g) w7 d cs) (hb : Below wr.heap.size wr w7) (h5 : cs.size = 4) :
    ∃ xs, (w7.alloc (.cells cs 28)).ownsRow B 28 4 v ds.length xs ∧ B ≤ (w7.alloc (.cells cs 28)).heap.size ∧ ∀ v' w9, w9.ownsRow B 28 4 v' (ds.length + 1) (xs ++ cs.toList) → (w7.alloc (.cells cs 28)).grownBy w9 v.ownBlock →
      (v'.ownBlock = v.ownBlock ∨ v'.ownBlock = some (w7.alloc (.cells cs 28)).heap.size) → Below B wr w9 ∧ OwnA B w9 v' (ds ++ [d]) := by
  have hs7 := hb.size
  have hb8 : Below wr.heap.size wr (w7.alloc (.cells cs 28)) := hb.alloc hb.size _
  obtain ⟨xs, hown8, hx8⟩ := OwnA.below hown hb8
  have hvl : ∀ k, v.ownBlock = some k → B ≤ k ∧ k < wr.heap.size := by
    obtain ⟨ys, ho, _⟩ := hown
    exact ho.lt
  have hz8 : (w7.alloc (.cells cs 28)).heap.size = w7.heap.size + 1 := by simp
  refine ⟨xs, hown8, by rw [hz8]; omega, fun v' w9 hown9 hg9 hv9 => ?_⟩
  refine ⟨(hb8.mono hB).grown hg9 (by rw [hz8]; omega) (fun k hk => (hvl k hk).1), ?_⟩
  have hlx : xs.length = ds.length * 4 := hown8.1
  refine OwnA.snoc hx8 hlx h5 ?_ hown9 hg9 hv9
  have h1 := Et.At.bound d cs hat
  have h2 := Et.At.keeps (Keeps.of_below ((Below.refl w7.heap.size w7).alloc (Nat.le_refl _) (.cells cs 28))) d cs h1
  refine Et.At.mono (fun g hg => ⟨?_, ?_⟩) d cs h2
  · have : wr.heap.size ≤ g := hg.1; omega
  · intro e
    have := (hvl g e).2
    have : wr.heap.size ≤ g := hg.1
    omega
theorem OwnA.mono {B B' : Nat} {w : World} {v : Value} {ds : List Et} (h : OwnA B w v ds) (hB : B' ≤ B) : OwnA B' w v ds := by
  obtain ⟨xs, hown, hd⟩ := h
  refine ⟨xs, ⟨hown.1, ?_⟩, fun j hj => ?_⟩
  · rcases hown.2 with h | ⟨g, cap, cur, rfl, hb, r⟩
    · exact .inl h
    · exact .inr ⟨g, cap, cur, rfl, by omega, r⟩
  · obtain ⟨cs, h5, h1, h2⟩ := hd j hj
    exact ⟨cs, h5, h1, Et.At.mono (fun g hg => ⟨by have := hg.1; omega, hg.2⟩) _ _ h2⟩

/-- A struct of a term in its own block. -/
def EB (w : World) (g : Nat) (k : Int) (t : ByteArray) (nv av : Value) : Prop := w.heap[g]? = some (.cells #[.int .i64 k, .string t, nv, av] 28 (0, 0))
theorem EB.cell (w : World) (g : Nat) (k : Int) (t : ByteArray) (nv av : Value) (h : EB w g k t nv av) : w.cell? ⟨g, 0, none⟩ = some (.int .i64 k) ∧ w.cell? ⟨g, 1, none⟩ = some (.string t) ∧ w.cell? ⟨g, 2, none⟩ = some nv ∧ w.cell? ⟨g, 3, none⟩ = some av := by
  unfold EB at h
  refine ⟨?_, ?_, ?_, ?_⟩ <;> (rw [Lib.cell_of_heap h]; rfl)
theorem EB.setA {w : World} {g : Nat} {k : Int} {t : ByteArray} {nv av : Value} (h : EB w g k t nv av) (v : Value) : EB (w.setCell ⟨g, 3, none⟩ v) g k t nv v := by
  have := heap_setCell_same w g 3 _ 28 v h
  unfold EB; rw [this]; rfl
theorem EB.setN {w : World} {g : Nat} {k : Int} {t : ByteArray} {nv av : Value} (h : EB w g k t nv av) (v : Value) : EB (w.setCell ⟨g, 2, none⟩ v) g k t v av := by
  have := heap_setCell_same w g 2 _ 28 v h
  unfold EB; rw [this]; rfl
theorem EB.frozen {w : World} {g : Nat} {k : Int} {t : ByteArray} {nv av : Value} (h : EB w g k t nv av) (i : Nat) : w.frozen? ⟨g, i, none⟩ = false := frozen_of_row w g i _ 28 h
theorem OwnN.setCell {B : Nat} {w : World} {v : Value} {ns : List ByteArray} (h : OwnN B w v ns) {a : Addr} (ha : a.block < B) (u : Value) : OwnN B (w.setCell a u) v ns := ownsRow_setCell_below h ha u
/-- Blocks below B stay, but for the one that counts. -/
structure But (B g : Nat) (w w' : World) : Prop where
  os : w'.os = w.os
  tape : w'.tape = w.tape
  output : w'.output = w.output
  size : w.heap.size ≤ w'.heap.size
  block : ∀ k, k < B → k ≠ g → w'.heap[k]? = w.heap[k]?
theorem But.refl (B g : Nat) (w : World) : But B g w w := ⟨rfl, rfl, rfl, Nat.le_refl _, fun _ _ _ => rfl⟩
theorem But.trans {B g : Nat} {a b c : World} (h : But B g a b) (k : But B g b c) : But B g a c :=
  ⟨k.os.trans h.os, k.tape.trans h.tape, k.output.trans h.output, Nat.le_trans h.size k.size, fun i hi hg => (k.block i hi hg).trans (h.block i hi hg)⟩
theorem But.mono {B B' g : Nat} {w w' : World} (h : But B g w w') (hB : B' ≤ B) : But B' g w w' := ⟨h.os, h.tape, h.output, h.size, fun k hk => h.block k (Nat.lt_of_lt_of_le hk hB)⟩
theorem But.of {B g : Nat} {w w' : World} (h : Below B w w') : But B g w w' := ⟨h.os, h.tape, h.output, h.size, fun k hk _ => h.block k hk⟩
theorem But.drew {B g : Nat} {a w : World} (h : But B g a w) : But B g a w.drew := ⟨h.os, h.tape, h.output, h.size, h.block⟩
theorem But.alloc {B g : Nat} {a w : World} (h : But B g a w) (hB : B ≤ w.heap.size) (o : Obj) : But B g a (w.alloc o) := h.trans (But.of ((Below.refl B w).alloc hB o))
theorem But.setCell {B g : Nat} {a w : World} (h : But B g a w) {p : Addr} (hp : B ≤ p.block ∨ p.block = g) (u : Value) : But B g a (w.setCell p u) := by
  refine h.trans ⟨rfl, rfl, rfl, by simp [World.setCell], fun k hk hg => ?_⟩
  exact Below.heap_setCell w p u k (by rintro rfl; rcases hp with hp | hp <;> omega)
theorem But.cell {B g : Nat} {w w' : World} (h : But B g w w') {p : Addr} (hp : p.block < B) (hg : p.block ≠ g) : w'.cell? p = w.cell? p := World.cell?_of_block (w := w) (h.block p.block hp hg)
theorem But.keeps {S : Nat → Prop} {g : Nat} {w w' : World} (h : But w.heap.size g w w') (hS : ∀ k, S k → k ≠ g) : Keeps S w w' := by
  intro k c T fz hs hg _
  exact ⟨fz, by rw [h.block k (Array.getElem?_eq_some_iff.1 hg).1 (hS k hs)]; exact hg⟩

abbrev eN : Et := .mk 3 ⟨#[]⟩ [] []
def nmP : List ByteArray := [⟨#[112]⟩, ⟨#[113]⟩, ⟨#[114]⟩]
def shT : List ByteArray := [⟨#[]⟩, ⟨#[120]⟩, ⟨#[53]⟩, ⟨#[35, 116]⟩, ⟨#[99, 111, 110, 115]⟩, ⟨#[99, 97, 114]⟩, ⟨#[45, 48]⟩]
theorem shT_small (i : Nat) : (shT.getD i ⟨#[]⟩).size ≤ 100 := by
  by_cases h : i < 7
  · match i, h with
    | 0, _ => decide
    | 1, _ => decide
    | 2, _ => decide
    | 3, _ => decide
    | 4, _ => decide
    | 5, _ => decide
    | 6, _ => decide
    | n + 7, h => exact absurd h (by omega)
  · rw [List.getD_eq_getElem?_getD, List.getElem?_eq_none (by simp [shT]; omega)]; decide
theorem nilC_one : ∀ u ∈ nilC.toList, u.oneCell' = true := by
  intro u hu
  simp [nilC] at hu
  rcases hu with rfl | rfl | rfl <;> rfl
theorem nilC_cells (w : World) : ∀ (i : Nat) u, nilC.toList[i]? = some u → (w.alloc (.cells nilC 28)).cell? ⟨w.heap.size, i, none⟩ = some u := by
  intro i u hu
  rw [Lib.cell_of_heap (alloc_at w _)]
  simpa using hu
def ShA (w : World) (g r : Nat) (k : Int) (t : ByteArray) (iv : Value) (wr : World) : Prop :=
  ∃ (j : Nat) (av : Value), j ≤ r ∧ iv = .int .i64 (j : Int) ∧ OwnA (g + 1) wr av (List.replicate j eN) ∧ EB wr g k t (.slice none 0 0) av ∧ Below w.heap.size w wr
def ShN (w W0 : World) (g m : Nat) (k : Int) (t : ByteArray) (av : Value) (iv : Value) (wr : World) : Prop :=
  ∃ (j : Nat) (nv : Value), j ≤ m ∧ iv = .int .i64 (j : Int) ∧ OwnN W0.heap.size wr nv (nmP.take j) ∧ EB wr g k t nv av ∧ But W0.heap.size g W0 wr ∧ Below w.heap.size w wr
theorem nmP_at (j : Nat) (h : j < 3) : ∃ x, nmP.getD j ⟨#[]⟩ = x ∧ nmP.take (j + 1) = nmP.take j ++ [x] := by
  refine ⟨_, rfl, ?_⟩
  have hl : j < nmP.length := h
  rw [List.take_succ_eq_append_getElem hl, List.getD_eq_getElem?_getD, List.getElem?_eq_getElem hl]; rfl
theorem row_rangeB {w : World} {g : Nat} {cs : List Value} {T : TypeId} {fz : Nat × Nat} (h : w.heap[g]? = some (.cells cs.toArray T fz)) : w.rangeAt g 0 cs := by
  intro j v hv
  rw [Nat.zero_add, Lib.cell_of_heap h]
  simpa using hv
set_option maxHeartbeats 8000000 in
set_option maxRecDepth 100000 in
theorem shapes_walk (a0 a1 a2 a3 : Int) (w : World) (h0 : I64 a0) (h1 : I64 a1) (h2 : I64 a2) (h3 : I64 a3) : Calls Try.prog 10 #[.int .i64 a0, .int .i64 a1, .int .i64 a2, .int .i64 a3] w (RetBool true w) := by
  have F0 := Lib.hid (fun w => known_any w)
  have F1 := Lib.hid (fun w => within_some a0 13 h0 (by decide) (by decide) w)
  obtain ⟨s, hs⟩ : ∃ s : Nat, a3 % 7 = (s : Int) := ⟨(a3 % 7).toNat, by omega⟩
  obtain ⟨r, hr⟩ : ∃ r : Nat, a1 % 4 = (r : Int) := ⟨(a1 % 4).toNat, by omega⟩
  obtain ⟨m, hm⟩ : ∃ m : Nat, a2 % 4 = (m : Int) := ⟨(a2 % 4).toNat, by omega⟩
  have hs7 : s < 7 := by omega
  have hr4 : r < 4 := by omega
  have hm4 : m < 4 := by omega
  have F2 := Lib.hid (fun w => within_is a3 7 s h3 (by decide) (by decide) hs w)
  have F3 := Lib.hid (fun w => within_is a1 4 r h1 (by decide) (by decide) hr w)
  have F4 := Lib.hid (fun w => within_is a2 4 m h2 (by decide) (by decide) hm w)
  clear h0 h1 h2 h3 hs hr hm
  go_enter Try.func10, Try.ntmps10
  go_wp2_with fail
  refine (F0.out _).mono ?_
  rintro e w1 ⟨rfl, hb⟩
  have B1 := Lib.hid hb
  clear hb
  go_wp2_with fail
  refine (F1.out _).mono ?_
  rintro e w2 ⟨k0, hk0, rfl, rfl⟩
  obtain ⟨k, hk⟩ : ∃ k : Int, (k0 : Int) - 1 = k := ⟨_, rfl⟩
  have HW : ∀ W : World, W.alloc (.cells #[.string ⟨#[]⟩, .string ⟨#[120]⟩, .string ⟨#[53]⟩, .string ⟨#[35, 116]⟩, .string ⟨#[99, 111, 110, 115]⟩, .string ⟨#[99, 97, 114]⟩, .string ⟨#[45, 48]⟩] 9) = W.alloc (.cells (tcells shT) 9) := fun _ => rfl
  have HWW := Lib.hid HW
  clear HW
--BEGIN
  go_wp2_with fail
  rw [HWW.out]
  have HG := Lib.hid (alloc_at w1 (.cells (tcells shT) 9))
  have B2 := Lib.hid (B1.out.alloc B1.out.size (.cells (tcells shT) 9))
  generalize w1.alloc (.cells (tcells shT) 9) = W at HG B2 ⊢
  refine (F2.out _).mono ?_
  rintro e w3 ⟨rfl, rfl⟩
  have e0 := tcells_get _ _ shT HG.out s hs7
  obtain ⟨t, ht⟩ : ∃ t, shT.getD s ⟨#[]⟩ = t := ⟨_, rfl⟩
  rw [ht] at e0
  have htz : t.size ≤ 100 := by rw [← ht]; exact shT_small s
  have HTZ := Lib.hid htz
  clear ht HWW F0 F1 F2 B1 HG
  go_upto_region 4 with (refine wpList_store_row rfl 28 _ _ rfl W.heap.size #[.int .i64 k, .string t, .slice none 0 0, .slice none 0 0] rfl rfl 28 Z4 (alloc_at _ _) info28 rfl rfl ?_)
  clear e0
  have HE := Lib.hid (alloc_at W (.cells #[.int .i64 k, .string t, .slice none 0 0, .slice none 0 0] 28))
  have B3 := Lib.hid (B2.out.alloc B2.out.size (.cells #[.int .i64 k, .string t, .slice none 0 0, .slice none 0 0] 28))
  have hgw : w.heap.size ≤ W.heap.size := B2.out.size
  generalize W.alloc (.cells #[.int .i64 k, .string t, .slice none 0 0, .slice none 0 0] 28) = W3 at HE B3 ⊢
  obtain ⟨g, hg⟩ : ∃ g, W.heap.size = g := ⟨_, rfl⟩
  rw [hg] at HE hgw
  simp only [hg]
  clear hg B2
  have H0 : Hid (ShA w g r k t (.int .i64 0) W3) := ⟨0, .slice none 0 0, Nat.zero_le _, rfl, OwnA.nil _ _, HE.out, B3.out⟩
  clear HE B3
  go_wp2_with fail
  go_loopw [10] (fun iv wr => ShA w g r k t iv wr) (fun iv _ => r - (intOf iv).toNat)
  case atStart => exact H0.out
  case round =>
    clear H0
    obtain ⟨j, av, hj, rfl, hown, heb, hb⟩ := hrel
    have HEB := Lib.hid heb
    have HB := Lib.hid hb
    have HO := Lib.hid hown
    clear hb hown heb
    go_wp2_with fail
    refine (F3.out _).mono ?_
    rintro e w4 ⟨rfl, rfl⟩
    by_cases hlt : j < r
    · have q1 : decide ((j : Int) < (r : Int)) = true := decide_eq_true (by omega)
      obtain ⟨c0, c1, c2, c3⟩ := EB.cell _ _ _ _ _ _ HEB.out
      have hgl : g < wr.heap.size := World.block_lt_of_cell? wr _ c3
      obtain ⟨xs, hx8, hB8, hcont⟩ := all_more (w7 := wr) (d := eN) (cs := nilC) HO.out (by simp; omega) (by omega) (nil_at _ _) (Below.refl _ _) rfl
      obtain ⟨ao, ac, rfl⟩ := own_form hx8
      simp only [List.length_replicate] at hx8 hcont c3 HEB
      have hj1 : j + 1 ≤ 1000000000 := by omega
      have hg1 : g < g + 1 := by omega
      have HX := Lib.hid hx8
      have HC := Lib.hid hcont
      clear hx8 hcont c0 c1 c2
      go_wp2_with (refine wpList_wanted (by rfl) fun K hK => ?_; refine wp_app (Operand.tmp 30) (Operand.tmp 32) rfl (g + 1) _ j xs rfl HX.out wr.heap.size 1 rfl nilC.toList rfl (nilC_cells wr) nilC_one hj1 hB8 ?_; intro v' w9 hown9 hg9 hv9; obtain ⟨ao', ac', rfl⟩ := own_form hown9; obtain ⟨hb9, hO9⟩ := HC.out _ _ hown9 hg9 hv9; have heb9 : EB w9 g k t (.slice none 0 0) (.slice ao j ac) := (by unfold EB; rw [hb9.block g hg1]; exact HEB.out); obtain ⟨d0, d1, d2, d3⟩ := EB.cell _ _ _ _ _ _ heb9; have dz := heb9.frozen 3; have HREL : Hid (ShA w g r k t (.int .i64 ((j : Int) + 1)) (w9.setCell ⟨g, 3, none⟩ (.slice ao' (j + 1) ac'))) := (⟨j + 1, _, by omega, by go_num, by rw [List.replicate_succ']; exact hO9.setCell (a := ⟨g, 3, none⟩) (by show g < g + 1; omega) _, heb9.setA _, (HB.out.trans (hb9.mono (by omega))).setCell (p := ⟨g, 3, none⟩) hgw _⟩); clear hown9 hg9 hv9 hO9 hb9 heb9 d0 d1 d2 HX HC; refine hK _ _ ?_; clear hK K)
      go_roundw
      case rel => exact HREL.out
      case measure => simp [intOf]; omega
    · have q1 : decide ((j : Int) < (r : Int)) = false := decide_eq_false (by omega)
      obtain rfl : r = j := by omega
      obtain ⟨W0, hW0⟩ : ∃ W0, W0 = wr := ⟨_, rfl⟩
      have hgl : g < W0.heap.size := by rw [hW0]; exact (Array.getElem?_eq_some_iff.1 HEB.out).1
      have H0 : Hid (ShN w W0 g m k t av (.int .i64 0) wr) := ⟨0, .slice none 0 0, Nat.zero_le _, rfl, OwnN.nil _ _, HEB.out, by rw [hW0]; exact But.refl _ _ _, HB.out⟩
      have HA0 : Hid (AAt (fun x => x ≠ g ∧ x < W0.heap.size) W0 av (List.replicate r eN)) := by
        show _
        rw [hW0]
        have h1 := HO.out.at
        rcases h1 with h1 | ⟨g1, o1, c1, a1, f1, e1, s1, h1, h2⟩
        · exact .inl h1
        · refine .inr ⟨g1, o1, c1, a1, f1, e1, ⟨by have : g + 1 ≤ g1 := s1; omega, (Array.getElem?_eq_some_iff.1 h1).1⟩, h1, Ets.At.of_get _ _ _ fun i hi => ?_, h2.2⟩
          obtain ⟨cs, hc, hd⟩ := Ets.At.get _ _ _ h2.1 i hi
          refine ⟨cs, hc, ?_⟩
          rw [List.getElem_replicate] at hd ⊢
          rw [EAt_mk] at hd ⊢
          obtain ⟨n1, v1, e2, hn1, hv1⟩ := hd
          refine ⟨n1, v1, e2, ?_, ?_⟩
          · rcases hn1 with hn1 | ⟨g2, o2, c2, a2, f2, e3, s2, h3, _⟩
            · exact .inl hn1
            · exact .inr ⟨g2, o2, c2, a2, f2, e3, ⟨by have : g + 1 ≤ g2 := s2; omega, (Array.getElem?_eq_some_iff.1 h3).1⟩, h3, fun j hj => by simp at hj, by simp⟩
          · rcases hv1 with hv1 | ⟨g2, o2, c2, a2, f2, e3, s2, h3, _⟩
            · exact .inl hv1
            · exact .inr ⟨g2, o2, c2, a2, f2, e3, ⟨by have : g + 1 ≤ g2 := s2; omega, (Array.getElem?_eq_some_iff.1 h3).1⟩, h3, by unfold Ets.At; trivial⟩
      clear HEB HB HO F3 hlt hW0
      go_wp2_with fail
      go_loopw [11] (fun iv wr => ShN w W0 g m k t av iv wr) (fun iv _ => m - (intOf iv).toNat)
      case atStart => exact H0.out
      case round =>
        clear H0

        obtain ⟨j, nv, hj, rfl, hown, heb, hbut, hb⟩ := hrel
        have hs0 := hbut.size
        have HEB := Lib.hid heb
        have HB := Lib.hid hb
        have HBU := Lib.hid hbut
        have hlt3 : (nmP.take j).length = j := by rw [List.length_take]; simp [nmP]; omega
        obtain ⟨no, nc, rfl⟩ := own_form hown
        rw [hlt3] at heb HEB
        unfold OwnN at hown
        rw [hlt3] at hown
        have HN : Hid (OwnN W0.heap.size wr (.slice no j nc) (nmP.take j)) := by show _; unfold OwnN; rw [hlt3]; exact hown
        obtain ⟨c0, c1, c2, c3⟩ := EB.cell _ _ _ _ _ _ heb
        clear hb hown heb hbut c0 c1 c3
        go_wp2_with fail
        refine (F4.out _).mono ?_
        rintro e w5 ⟨rfl, rfl⟩
        by_cases hlt : j < m
        · have q1 : decide ((j : Int) < (m : Int)) = true := decide_eq_true (by omega)
          obtain ⟨x, hx, htk⟩ := nmP_at j (by omega)
          obtain ⟨W1, hW1⟩ : ∃ W1, W1 = (wr.alloc (.cells #[.string ⟨#[112]⟩, .string ⟨#[113]⟩, .string ⟨#[114]⟩] 9)).drew := ⟨_, rfl⟩
          have HBd1 : Hid (Below W0.heap.size wr W1) := by show _; rw [hW1]; exact ((Below.refl _ _).alloc hs0 _).drew
          have hz1 : W0.heap.size ≤ W1.heap.size := Nat.le_trans hs0 HBd1.out.size
          have d0 : W1.cell? ⟨wr.heap.size, j, none⟩ = some (.string x) := by
            have := tcells_get (wr.alloc (.cells (tcells nmP) 9)).drew wr.heap.size nmP (alloc_at wr (.cells (tcells nmP) 9)) j (by show j < 3; omega)
            rw [hx] at this; rw [hW1]; exact this
          have HBd2 : Hid (Below W0.heap.size wr (W1.alloc (.cells #[.string x] 9))) := HBd1.out.alloc hz1 _
          have hs1 : W1.heap.size = wr.heap.size + 1 := by rw [hW1]; simp
          have hfull : Below wr.heap.size wr (W1.alloc (.cells #[.string x] 9)) := by rw [hW1]; exact (((Below.refl _ _).alloc (Nat.le_refl _) _).drew).alloc (by simp) _
          have HN2 := Lib.hid (HN.out.below hfull)
          have d1 : Hid ((W1.alloc (.cells #[.string x] 9)).cell? ⟨wr.heap.size + 1, 0, none⟩ = some (.string x)) := by
            show _ = _
            rw [← hs1, Lib.cell_of_heap (alloc_at W1 _)]; rfl
          have hL : (nmP.take j).length ≤ 100000 := by omega
          have hl9 : (nmP.take j ++ [x]).length = j + 1 := by rw [List.length_append, hlt3]; rfl
          have hj3 : j < 3 := by omega
          have hB2 : W0.heap.size ≤ (W1.alloc (.cells #[.string x] 9)).heap.size := Nat.le_trans hs0 HBd2.out.size
          have HW1 := Lib.hid hW1.symm
          clear hW1
          have HC9 : Hid (∀ (w9 : World) (ao' : Option Addr) (ac' : Nat), OwnN W0.heap.size w9 (.slice ao' (j + 1) ac') (nmP.take j ++ [x]) → (W1.alloc (.cells #[.string x] 9)).grownBy w9 (Value.slice no j nc).ownBlock →
              Below W0.heap.size wr w9 ∧ ShN w W0 g m k t av (.int .i64 ((j : Int) + 1)) (w9.setCell ⟨g, 2, none⟩ (.slice ao' (j + 1) ac')) ∧ w9.cell? ⟨g, 2, none⟩ = some (.slice no j nc) ∧ w9.frozen? ⟨g, 2, none⟩ = false) := by
            show _
            intro w9 ao' ac' h9 hg9
            have hb9 : Below W0.heap.size wr w9 := HBd2.out.grown hg9 hB2 (fun k hk => (HN2.out.lt k hk).1)
            have heb9 : EB w9 g k t (.slice no j nc) av := by unfold EB; rw [hb9.block g hgl]; exact HEB.out
            refine ⟨hb9, ⟨j + 1, _, by omega, by go_num, ?_, heb9.setN _, ?_, ?_⟩, (EB.cell _ _ _ _ _ _ heb9).2.2.1, heb9.frozen 2⟩
            · rw [htk]; exact h9.setCell (a := ⟨g, 2, none⟩) hgl _
            · exact (HBU.out.trans (But.of hb9)).setCell (p := ⟨g, 2, none⟩) (.inr rfl) _
            · exact ((HB.out.trans (hb9.mono (by omega))).setCell (p := ⟨g, 2, none⟩) hgw _)
          have HS0 : Hid (But W0.heap.size g wr wr.drew) := (But.refl _ _ _).drew
          have HS1 := Lib.hid (But.of (g := g) HBd1.out)
          have HS2 := Lib.hid (But.of (g := g) HBd2.out)
          have c2b : W1.cell? ⟨g, 2, none⟩ = some (.slice no j nc) := (HBd1.out.cell (p := ⟨g, 2, none⟩) hgl).trans c2
          have c2c : (W1.alloc (.cells #[.string x] 9)).cell? ⟨g, 2, none⟩ = some (.slice no j nc) := (HBd2.out.cell (p := ⟨g, 2, none⟩) hgl).trans c2
          clear hx htk hfull hz1 HBU HB HN HBd1 HBd2 HA0
          go_upto_region 11 with fail
          refine wp_region_noPanic ?_
          refine wp_region_held_drew (S := But W0.heap.size g wr) (by kernel_rfl) ((But.refl _ _ _).drew) (fun hHeld => ?_)
          refine wpAnyH_take (i := 0) (v := Value.pointer (some ⟨g, 2, none⟩)) rfl (by kernel_rfl) (by kernel_rfl) (by kernel_rfl) (fun _ _ _ h => h) (Or.inl ⟨rfl, fun w' hw' => ?_⟩) hHeld ?_
          · go_simp
          simp only [List.getElem_toArray, List.getElem_cons_succ, List.getElem_cons_zero, Act.put, List.setIfInBounds_toArray, List.set_cons_zero, List.set_cons_succ]
          refine wpAnyH_take (i := 3) (v := Value.int .i64 (j : Int)) rfl (by kernel_rfl) (by kernel_rfl) (by kernel_rfl) (fun _ _ _ h => h) (Or.inl ⟨rfl, fun w' hw' => ?_⟩) hHeld ?_
          · go_simp
          simp only [List.getElem_toArray, List.getElem_cons_succ, List.getElem_cons_zero, Act.put, List.setIfInBounds_toArray, List.set_cons_zero, List.set_cons_succ]
          refine wpAnyH_ready (rs := [1, 2]) (by kernel_rfl) (by simp) ?_
          refine (AllReadyH.cons rfl (fun K hK => ?_) (AllReadyH.cons rfl (fun K hK => ?_) AllReadyH.nil))
          · skip
            go_simp
            refine hK.out _ _ HS0.out (fun hHeld => ?_)
            clear hK K
            try simp only [List.getElem_toArray, List.getElem_cons_succ, List.getElem_cons_zero, Act.put, List.setIfInBounds_toArray, List.set_cons_zero, List.set_cons_succ]
            refine wpAnyH_ready (rs := [2]) (by kernel_rfl) (by simp) ?_
            refine (AllReadyH.cons rfl (fun K hK => ?_) AllReadyH.nil)
            go_simp
            rw [HW1.out]
            refine hK.out _ _ HS1.out (fun hHeld => ?_)
            clear hK K
            try simp only [List.getElem_toArray, List.getElem_cons_succ, List.getElem_cons_zero, Act.put, List.setIfInBounds_toArray, List.set_cons_zero, List.set_cons_succ]
            refine wpAnyH_take (i := 4) (v := Value.pointer (some ⟨wr.heap.size, j, none⟩)) rfl (by kernel_rfl) (by kernel_rfl) (by kernel_rfl) (fun _ _ _ h => h) (Or.inl ⟨rfl, fun w' hw' => ?_⟩) hHeld ?_
            · go_simp; intro h9; exact absurd h9 (by omega)
            simp only [List.getElem_toArray, List.getElem_cons_succ, List.getElem_cons_zero, Act.put, List.setIfInBounds_toArray, List.set_cons_zero, List.set_cons_succ]
            refine wpAnyH_ready (rs := [5]) (by kernel_rfl) (by simp) ?_
            refine (AllReadyH.cons rfl (fun K hK => ?_) AllReadyH.nil)
            go_simp
            refine hK.out _ _ HS1.out (fun hHeld => ?_)
            clear hK K
            try simp only [List.getElem_toArray, List.getElem_cons_succ, List.getElem_cons_zero, Act.put, List.setIfInBounds_toArray, List.set_cons_zero, List.set_cons_succ]
            refine wpAnyH_ready (rs := [6]) (by kernel_rfl) (by simp) ?_
            refine (AllReadyH.cons rfl (fun K hK => ?_) AllReadyH.nil)
            go_simp
            refine hK.out _ _ HS2.out (fun hHeld => ?_)
            clear hK K
            try simp only [List.getElem_toArray, List.getElem_cons_succ, List.getElem_cons_zero, Act.put, List.setIfInBounds_toArray, List.set_cons_zero, List.set_cons_succ]
            refine wpAnyH_ready (rs := [7]) (by kernel_rfl) (by simp) ?_
            refine (AllReadyH.cons rfl (fun K hK => ?_) AllReadyH.nil)
            refine wp_appN1 (Operand.tmp 42) (Operand.tmp 47) rfl W0.heap.size (.slice no j nc) (nmP.take j) rfl HN2.out _ rfl x d1.out hL hB2 ?_
            intro v' w9 hown9 hg9
            obtain ⟨ao', ac', e9⟩ := own_form hown9
            rw [hl9] at e9
            subst e9
            obtain ⟨S9, HREL9⟩ := HC9.out _ _ _ hown9 hg9
            have HR9 := Lib.hid HREL9
            have e9 := HREL9.2.1
            have f9 := HREL9.2.2
            have S10 := Lib.hid ((But.of (g := g) S9).setCell (p := ⟨g, 2, none⟩) (.inr rfl) (.slice ao' (j + 1) ac'))
            have S9b := Lib.hid (But.of (g := g) S9)
            clear hown9 hg9 HREL9 S9
            refine hK.out _ _ S9b.out (fun hHeld => ?_)
            clear hK K
            try simp only [List.getElem_toArray, List.getElem_cons_succ, List.getElem_cons_zero, Act.put, List.setIfInBounds_toArray, List.set_cons_zero, List.set_cons_succ]
            refine wpAnyH_take (i := 8) (v := Value.pointer (some ⟨g, 2, none⟩)) rfl (by kernel_rfl) (by kernel_rfl) (by kernel_rfl) (fun _ _ _ h => h) (Or.inl ⟨rfl, fun w' hw' => ?_⟩) hHeld ?_
            · go_simp
            simp only [List.getElem_toArray, List.getElem_cons_succ, List.getElem_cons_zero, Act.put, List.setIfInBounds_toArray, List.set_cons_zero, List.set_cons_succ]
            refine wpAnyH_ready (rs := [9]) (by kernel_rfl) (by simp) ?_
            refine (AllReadyH.cons rfl (fun K hK => ?_) AllReadyH.nil)
            go_simp
            refine hK.out _ _ S10.out (fun hHeld => ?_)
            clear hK K
            try simp only [List.getElem_toArray, List.getElem_cons_succ, List.getElem_cons_zero, Act.put, List.setIfInBounds_toArray, List.set_cons_zero, List.set_cons_succ]
            refine wpAnyH_done (by kernel_rfl) ?_ _
            refine NoPanic.normal ?_
            clear hHeld
            go_wp2_with fail
            go_roundw
            case rel => exact HR9.out.1
            case measure => simp [intOf]; omega
          · skip
            go_simp
            rw [HW1.out]
            refine hK.out _ _ HS1.out (fun hHeld => ?_)
            clear hK K
            try simp only [List.getElem_toArray, List.getElem_cons_succ, List.getElem_cons_zero, Act.put, List.setIfInBounds_toArray, List.set_cons_zero, List.set_cons_succ]
            refine wpAnyH_take (i := 4) (v := Value.pointer (some ⟨wr.heap.size, j, none⟩)) rfl (by kernel_rfl) (by kernel_rfl) (by kernel_rfl) (fun _ _ _ h => h) (Or.inl ⟨rfl, fun w' hw' => ?_⟩) hHeld ?_
            · go_simp; intro h9; exact absurd h9 (by omega)
            simp only [List.getElem_toArray, List.getElem_cons_succ, List.getElem_cons_zero, Act.put, List.setIfInBounds_toArray, List.set_cons_zero, List.set_cons_succ]
            refine wpAnyH_ready (rs := [1, 5]) (by kernel_rfl) (by simp) ?_
            refine (AllReadyH.cons rfl (fun K hK => ?_) (AllReadyH.cons rfl (fun K hK => ?_) AllReadyH.nil))
            · skip
              go_simp
              refine hK.out _ _ HS1.out (fun hHeld => ?_)
              clear hK K
              try simp only [List.getElem_toArray, List.getElem_cons_succ, List.getElem_cons_zero, Act.put, List.setIfInBounds_toArray, List.set_cons_zero, List.set_cons_succ]
              refine wpAnyH_ready (rs := [5]) (by kernel_rfl) (by simp) ?_
              refine (AllReadyH.cons rfl (fun K hK => ?_) AllReadyH.nil)
              go_simp
              refine hK.out _ _ HS1.out (fun hHeld => ?_)
              clear hK K
              try simp only [List.getElem_toArray, List.getElem_cons_succ, List.getElem_cons_zero, Act.put, List.setIfInBounds_toArray, List.set_cons_zero, List.set_cons_succ]
              refine wpAnyH_ready (rs := [6]) (by kernel_rfl) (by simp) ?_
              refine (AllReadyH.cons rfl (fun K hK => ?_) AllReadyH.nil)
              go_simp
              refine hK.out _ _ HS2.out (fun hHeld => ?_)
              clear hK K
              try simp only [List.getElem_toArray, List.getElem_cons_succ, List.getElem_cons_zero, Act.put, List.setIfInBounds_toArray, List.set_cons_zero, List.set_cons_succ]
              refine wpAnyH_ready (rs := [7]) (by kernel_rfl) (by simp) ?_
              refine (AllReadyH.cons rfl (fun K hK => ?_) AllReadyH.nil)
              refine wp_appN1 (Operand.tmp 42) (Operand.tmp 47) rfl W0.heap.size (.slice no j nc) (nmP.take j) rfl HN2.out _ rfl x d1.out hL hB2 ?_
              intro v' w9 hown9 hg9
              obtain ⟨ao', ac', e9⟩ := own_form hown9
              rw [hl9] at e9
              subst e9
              obtain ⟨S9, HREL9⟩ := HC9.out _ _ _ hown9 hg9
              have HR9 := Lib.hid HREL9
              have e9 := HREL9.2.1
              have f9 := HREL9.2.2
              have S10 := Lib.hid ((But.of (g := g) S9).setCell (p := ⟨g, 2, none⟩) (.inr rfl) (.slice ao' (j + 1) ac'))
              have S9b := Lib.hid (But.of (g := g) S9)
              clear hown9 hg9 HREL9 S9
              refine hK.out _ _ S9b.out (fun hHeld => ?_)
              clear hK K
              try simp only [List.getElem_toArray, List.getElem_cons_succ, List.getElem_cons_zero, Act.put, List.setIfInBounds_toArray, List.set_cons_zero, List.set_cons_succ]
              refine wpAnyH_take (i := 8) (v := Value.pointer (some ⟨g, 2, none⟩)) rfl (by kernel_rfl) (by kernel_rfl) (by kernel_rfl) (fun _ _ _ h => h) (Or.inl ⟨rfl, fun w' hw' => ?_⟩) hHeld ?_
              · go_simp
              simp only [List.getElem_toArray, List.getElem_cons_succ, List.getElem_cons_zero, Act.put, List.setIfInBounds_toArray, List.set_cons_zero, List.set_cons_succ]
              refine wpAnyH_ready (rs := [9]) (by kernel_rfl) (by simp) ?_
              refine (AllReadyH.cons rfl (fun K hK => ?_) AllReadyH.nil)
              go_simp
              refine hK.out _ _ S10.out (fun hHeld => ?_)
              clear hK K
              try simp only [List.getElem_toArray, List.getElem_cons_succ, List.getElem_cons_zero, Act.put, List.setIfInBounds_toArray, List.set_cons_zero, List.set_cons_succ]
              refine wpAnyH_done (by kernel_rfl) ?_ _
              refine NoPanic.normal ?_
              clear hHeld
              go_wp2_with fail
              go_roundw
              case rel => exact HR9.out.1
              case measure => simp [intOf]; omega
            · skip
              go_simp
              refine hK.out _ _ HS1.out (fun hHeld => ?_)
              clear hK K
              try simp only [List.getElem_toArray, List.getElem_cons_succ, List.getElem_cons_zero, Act.put, List.setIfInBounds_toArray, List.set_cons_zero, List.set_cons_succ]
              refine wpAnyH_ready (rs := [1, 6]) (by kernel_rfl) (by simp) ?_
              refine (AllReadyH.cons rfl (fun K hK => ?_) (AllReadyH.cons rfl (fun K hK => ?_) AllReadyH.nil))
              · skip
                go_simp
                refine hK.out _ _ HS1.out (fun hHeld => ?_)
                clear hK K
                try simp only [List.getElem_toArray, List.getElem_cons_succ, List.getElem_cons_zero, Act.put, List.setIfInBounds_toArray, List.set_cons_zero, List.set_cons_succ]
                refine wpAnyH_ready (rs := [6]) (by kernel_rfl) (by simp) ?_
                refine (AllReadyH.cons rfl (fun K hK => ?_) AllReadyH.nil)
                go_simp
                refine hK.out _ _ HS2.out (fun hHeld => ?_)
                clear hK K
                try simp only [List.getElem_toArray, List.getElem_cons_succ, List.getElem_cons_zero, Act.put, List.setIfInBounds_toArray, List.set_cons_zero, List.set_cons_succ]
                refine wpAnyH_ready (rs := [7]) (by kernel_rfl) (by simp) ?_
                refine (AllReadyH.cons rfl (fun K hK => ?_) AllReadyH.nil)
                refine wp_appN1 (Operand.tmp 42) (Operand.tmp 47) rfl W0.heap.size (.slice no j nc) (nmP.take j) rfl HN2.out _ rfl x d1.out hL hB2 ?_
                intro v' w9 hown9 hg9
                obtain ⟨ao', ac', e9⟩ := own_form hown9
                rw [hl9] at e9
                subst e9
                obtain ⟨S9, HREL9⟩ := HC9.out _ _ _ hown9 hg9
                have HR9 := Lib.hid HREL9
                have e9 := HREL9.2.1
                have f9 := HREL9.2.2
                have S10 := Lib.hid ((But.of (g := g) S9).setCell (p := ⟨g, 2, none⟩) (.inr rfl) (.slice ao' (j + 1) ac'))
                have S9b := Lib.hid (But.of (g := g) S9)
                clear hown9 hg9 HREL9 S9
                refine hK.out _ _ S9b.out (fun hHeld => ?_)
                clear hK K
                try simp only [List.getElem_toArray, List.getElem_cons_succ, List.getElem_cons_zero, Act.put, List.setIfInBounds_toArray, List.set_cons_zero, List.set_cons_succ]
                refine wpAnyH_take (i := 8) (v := Value.pointer (some ⟨g, 2, none⟩)) rfl (by kernel_rfl) (by kernel_rfl) (by kernel_rfl) (fun _ _ _ h => h) (Or.inl ⟨rfl, fun w' hw' => ?_⟩) hHeld ?_
                · go_simp
                simp only [List.getElem_toArray, List.getElem_cons_succ, List.getElem_cons_zero, Act.put, List.setIfInBounds_toArray, List.set_cons_zero, List.set_cons_succ]
                refine wpAnyH_ready (rs := [9]) (by kernel_rfl) (by simp) ?_
                refine (AllReadyH.cons rfl (fun K hK => ?_) AllReadyH.nil)
                go_simp
                refine hK.out _ _ S10.out (fun hHeld => ?_)
                clear hK K
                try simp only [List.getElem_toArray, List.getElem_cons_succ, List.getElem_cons_zero, Act.put, List.setIfInBounds_toArray, List.set_cons_zero, List.set_cons_succ]
                refine wpAnyH_done (by kernel_rfl) ?_ _
                refine NoPanic.normal ?_
                clear hHeld
                go_wp2_with fail
                go_roundw
                case rel => exact HR9.out.1
                case measure => simp [intOf]; omega
              · skip
                go_simp
                refine hK.out _ _ HS2.out (fun hHeld => ?_)
                clear hK K
                try simp only [List.getElem_toArray, List.getElem_cons_succ, List.getElem_cons_zero, Act.put, List.setIfInBounds_toArray, List.set_cons_zero, List.set_cons_succ]
                refine wpAnyH_ready (rs := [1]) (by kernel_rfl) (by simp) ?_
                refine (AllReadyH.cons rfl (fun K hK => ?_) AllReadyH.nil)
                go_simp
                refine hK.out _ _ HS2.out (fun hHeld => ?_)
                clear hK K
                try simp only [List.getElem_toArray, List.getElem_cons_succ, List.getElem_cons_zero, Act.put, List.setIfInBounds_toArray, List.set_cons_zero, List.set_cons_succ]
                refine wpAnyH_ready (rs := [7]) (by kernel_rfl) (by simp) ?_
                refine (AllReadyH.cons rfl (fun K hK => ?_) AllReadyH.nil)
                refine wp_appN1 (Operand.tmp 42) (Operand.tmp 47) rfl W0.heap.size (.slice no j nc) (nmP.take j) rfl HN2.out _ rfl x d1.out hL hB2 ?_
                intro v' w9 hown9 hg9
                obtain ⟨ao', ac', e9⟩ := own_form hown9
                rw [hl9] at e9
                subst e9
                obtain ⟨S9, HREL9⟩ := HC9.out _ _ _ hown9 hg9
                have HR9 := Lib.hid HREL9
                have e9 := HREL9.2.1
                have f9 := HREL9.2.2
                have S10 := Lib.hid ((But.of (g := g) S9).setCell (p := ⟨g, 2, none⟩) (.inr rfl) (.slice ao' (j + 1) ac'))
                have S9b := Lib.hid (But.of (g := g) S9)
                clear hown9 hg9 HREL9 S9
                refine hK.out _ _ S9b.out (fun hHeld => ?_)
                clear hK K
                try simp only [List.getElem_toArray, List.getElem_cons_succ, List.getElem_cons_zero, Act.put, List.setIfInBounds_toArray, List.set_cons_zero, List.set_cons_succ]
                refine wpAnyH_take (i := 8) (v := Value.pointer (some ⟨g, 2, none⟩)) rfl (by kernel_rfl) (by kernel_rfl) (by kernel_rfl) (fun _ _ _ h => h) (Or.inl ⟨rfl, fun w' hw' => ?_⟩) hHeld ?_
                · go_simp
                simp only [List.getElem_toArray, List.getElem_cons_succ, List.getElem_cons_zero, Act.put, List.setIfInBounds_toArray, List.set_cons_zero, List.set_cons_succ]
                refine wpAnyH_ready (rs := [9]) (by kernel_rfl) (by simp) ?_
                refine (AllReadyH.cons rfl (fun K hK => ?_) AllReadyH.nil)
                go_simp
                refine hK.out _ _ S10.out (fun hHeld => ?_)
                clear hK K
                try simp only [List.getElem_toArray, List.getElem_cons_succ, List.getElem_cons_zero, Act.put, List.setIfInBounds_toArray, List.set_cons_zero, List.set_cons_succ]
                refine wpAnyH_done (by kernel_rfl) ?_ _
                refine NoPanic.normal ?_
                clear hHeld
                go_wp2_with fail
                go_roundw
                case rel => exact HR9.out.1
                case measure => simp [intOf]; omega
        · have q1 : decide ((j : Int) < (m : Int)) = false := decide_eq_false (by omega)
          have hnat : NAt (fun x => x ≠ g) wr (.slice no j nc) (nmP.take j) := HN.out.at.mono (fun x hx => by have : W0.heap.size ≤ x := hx.1; show x ≠ g; omega)
          have haat : AAt (fun x => x ≠ g) wr av (List.replicate r eN) := (HA0.out.keeps (fun x cs T fz hx hxx _ => ⟨fz, by rw [HBU.out.block x hx.2 hx.1]; exact hxx⟩)).mono (fun x hx => hx.1)
          have hat : Et.At (fun x => x ≠ g) wr (.mk k t (nmP.take j) (List.replicate r eN)) #[.int .i64 k, .string t, .slice no j nc, av] := by rw [EAt_mk]; exact ⟨_, _, rfl, hnat, haat⟩
          have hso : ∀ n, Et.sizes (List.replicate n eN) = n := by
            intro n
            induction n with
            | zero => simp [Et.sizes]
            | succ n ih => rw [List.replicate_succ]; simp only [Et.sizes, ih, Et.size]; omega
          have hsz : (Et.mk k t (nmP.take j) (List.replicate r eN)).size ≤ 100000 := by simp only [Et.size, hso]; omega
          have hfine : (Et.mk k t (nmP.take j) (List.replicate r eN)).fine := by
            rw [fine_mk]
            refine ⟨HTZ.out, by omega, fun s hs => ?_, fun e he => ?_⟩
            · have := List.mem_of_mem_take hs
              simp [nmP] at this
              rcases this with rfl | rfl | rfl <;> decide
            · rw [List.eq_of_mem_replicate he, fine_mk]; exact ⟨by decide, by simp, by simp, by simp⟩
          obtain ⟨b, hbb⟩ : ∃ b, (Et.mk k t (nmP.take j) (List.replicate r eN)).right num = b := ⟨_, rfl⟩
          have X1 := Lib.hid (fun w' (hw' : Below wr.heap.size wr w') => right_any2 _ _ _ w' (Et.At.keeps (Keeps.of_below hw') _ _ hat) hsz hfine)
          have X2 := Lib.hid (fun w' (hw' : Below wr.heap.size wr w') => refright_any _ _ _ w' (Et.At.keeps (Keeps.of_below hw') _ _ hat) hsz hfine)
          rw [hbb] at X1 X2
          obtain ⟨o1, o2⟩ := EAt_one hat
          clear hbb hnat haat hat hso hsz hfine HBU HN HA0
          go_upto_region 12 with fail
          refine wp_region_noPanic ?_
          refine wp_region_held_drew (S := Below wr.heap.size wr) (by kernel_rfl) ((Below.refl _ _).drew) (fun hHeld => ?_)
          refine wpAnyH_take (i := 0) rfl (by kernel_rfl) (by kernel_rfl) (by kernel_rfl) (fun _ _ _ h => h) (yieldsIf_load_mid (by rfl) _ _ rfl g 0 rfl [.int .i64 k, .string t, .slice no j nc, av] _ (fun w' hw' => row_rangeB (row_below hw' HEB.out)) Try.underlying28 rfl info28) hHeld ?_
          simp only [List.getElem_toArray, List.getElem_cons_succ, List.getElem_cons_zero, Act.put, List.setIfInBounds_toArray, List.set_cons_zero, List.set_cons_succ]
          refine wpAnyH_take (i := 2) rfl (by kernel_rfl) (by kernel_rfl) (by kernel_rfl) (fun _ _ _ h => h) (yieldsIf_load_mid (by rfl) _ _ rfl g 0 rfl [.int .i64 k, .string t, .slice no j nc, av] _ (fun w' hw' => row_rangeB (row_below hw' HEB.out)) Try.underlying28 rfl info28) hHeld ?_
          simp only [List.getElem_toArray, List.getElem_cons_succ, List.getElem_cons_zero, Act.put, List.setIfInBounds_toArray, List.set_cons_zero, List.set_cons_succ]
          refine wpAnyH_ready (rs := [1]) (by kernel_rfl) (by simp) ?_
          refine (AllReadyH.cons rfl (fun K hK => ?_) AllReadyH.nil)
          go_simp
          refine (X1.out _ ((Below.refl _ _).drew)).mono ?_
          rintro e w6 ⟨rfl, hb6⟩
          have HS6 := Lib.hid (show Below wr.heap.size wr w6 from (Below.refl wr.heap.size wr).drew.trans hb6)
          refine hK.out _ _ HS6.out (fun hHeld => ?_)
          clear hK K hb6
          try simp only [List.getElem_toArray, List.getElem_cons_succ, List.getElem_cons_zero, Act.put, List.setIfInBounds_toArray, List.set_cons_zero, List.set_cons_succ]
          refine wpAnyH_ready (rs := [3]) (by kernel_rfl) (by simp) ?_
          refine (AllReadyH.cons rfl (fun K hK => ?_) AllReadyH.nil)
          go_simp
          refine (X2.out _ HS6.out).mono ?_
          rintro e w7 ⟨rfl, hb7⟩
          have HS7 := Lib.hid (HS6.out.trans (hb7.mono HS6.out.size))
          refine hK.out _ _ HS7.out (fun hHeld => ?_)
          clear hK K hb7
          try simp only [List.getElem_toArray, List.getElem_cons_succ, List.getElem_cons_zero, Act.put, List.setIfInBounds_toArray, List.set_cons_zero, List.set_cons_succ]
          refine wpAnyH_take (i := 4) (v := Value.bool true) rfl (by kernel_rfl) (by kernel_rfl) (by kernel_rfl) (fun _ _ _ h => h) (Or.inl ⟨rfl, fun w' hw' => ?_⟩) hHeld ?_
          · go_simp
          simp only [List.getElem_toArray, List.getElem_cons_succ, List.getElem_cons_zero, Act.put, List.setIfInBounds_toArray, List.set_cons_zero, List.set_cons_succ]
          refine wpAnyH_take (i := 5) (v := Value.bool true) rfl (by kernel_rfl) (by kernel_rfl) (by kernel_rfl) (fun _ _ _ h => h) (Or.inl ⟨rfl, fun w' hw' => ?_⟩) hHeld ?_
          · go_simp
          simp only [List.getElem_toArray, List.getElem_cons_succ, List.getElem_cons_zero, Act.put, List.setIfInBounds_toArray, List.set_cons_zero, List.set_cons_succ]
          refine wpAnyH_done (by kernel_rfl) ?_ _
          refine NoPanic.normal ?_
          clear hHeld
          have HF := Lib.hid (HB.out.trans (HS7.out.mono HB.out.size))
          go_wp2_with fail
          go_ret
          exact ⟨rfl, HF.out⟩
end Go.Proofs.Ytcalbcllmmoldaa
