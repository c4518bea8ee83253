/- Rules: RulesCounts, walked: its pattern and its row. -/
import Derived.Test.YtecljchifebljaaYAA
import Derived.Test.YtecljchifebljaaYAS
import Derived.Test.YtecljchifebljaaYAW
import Derived.Test.YtecljchifebljaaCK1
import Derived.Test.YtecljchifebljaaYAL
import Derived.Laws.BytesArg
import Derived.IntWalk
set_option linter.unusedVariables false
set_option linter.unusedSimpArgs false
namespace Go.Proofs.Ytecljchifebljaa
open Go Go.RowKit
theorem conv1 (w : World) (d : Nat) (hd : d < 10) :
  (convert 70 9 (.slice (some ⟨w.heap.size, 0, none⟩) 1 1)).run Try.prog (w.alloc (.cells #[.int .u8 (48 + (d : Int))] 5)) = .ok (.string ⟨#[dg d]⟩) (w.alloc (.cells #[.int .u8 (48 + (d : Int))] 5)) := by
 have := run_convert_bytes_arg (P := Try.prog) (w.alloc (.cells #[.int .u8 (48 + (d : Int))] 5)) 70 5 Try.underlying70 Try.underlying5 w.heap.size 0 1 1 [48 + (d : Int)] rfl (fun i hi => by
  obtain rfl : i = 0 := by omega
  rw [Lib.cell_of_heap (alloc_at w _)]; rfl) 9 Try.underlying9
 have e : strOfNums [48 + (d : Int)] = ⟨#[dg d]⟩ := by
  unfold strOfNums dg
  have : ((48 : Int) + (d : Int)).toNat = 48 + d := by omega
  simp [this]
 rw [e] at this; exact this
theorem conv2 (w : World) (a b : Nat) (ha : a < 10) (hb : b < 10) :
  (convert 70 9 (.slice (some ⟨w.heap.size, 0, none⟩) 2 2)).run Try.prog (w.alloc (.cells #[.int .u8 (48 + (a : Int)), .int .u8 (48 + (b : Int))] 5)) = .ok (.string ⟨#[dg a, dg b]⟩) (w.alloc (.cells #[.int .u8 (48 + (a : Int)), .int .u8 (48 + (b : Int))] 5)) := by
 have := run_convert_bytes_arg (P := Try.prog) (w.alloc (.cells #[.int .u8 (48 + (a : Int)), .int .u8 (48 + (b : Int))] 5)) 70 5 Try.underlying70 Try.underlying5 w.heap.size 0 2 2 [48 + (a : Int), 48 + (b : Int)] rfl (fun i hi => by
  rcases i with _ | _ | i
  ·rw [Lib.cell_of_heap (alloc_at w _)]; rfl
  ·rw [Lib.cell_of_heap (alloc_at w _)]; rfl
  ·omega) 9 Try.underlying9
 have e : strOfNums [48 + (a : Int), 48 + (b : Int)] = ⟨#[dg a, dg b]⟩ := by
  unfold strOfNums dg
  have h1 : ((48 : Int) + (a : Int)).toNat = 48 + a := by omega
  have h2 : ((48 : Int) + (b : Int)).toNat = 48 + b := by omega
  simp [h1, h2]
 rw [e] at this; exact this
/-- A list in a block of its own, its row behind it. -/
structure Pd (W0 : World) (gp : Nat) (v : Value) (ds : List Dt) (w : World) : Prop where
 c : w.heap[gp]? = some (.cells #[.int .i64 4, .string ⟨#[]⟩, .slice none 0 0, v, .int .i64 0] 29 (0, 0))
 o : OwnD (gp + 1) w v ds
 b : Below gp W0 w
theorem Pd.lt {W0 w : World} {gp : Nat} {v : Value} {ds : List Dt} (h : Pd W0 gp v ds w) : gp < w.heap.size := (Array.getElem?_eq_some_iff.1 h.c).1
theorem Pd.below {W0 w w' : World} {gp : Nat} {v : Value} {ds : List Dt} (h : Pd W0 gp v ds w) (hb : Below w.heap.size w w') : Pd W0 gp v ds w' :=
 ⟨(hb.block _ h.lt).trans h.c, h.o.below hb, h.b.trans (hb.mono (by have := h.lt; omega))⟩
/-- One datum without parts is put behind the others. -/
theorem Pd.more {W0 w w7 : World} {gp : Nat} {v : Value} {ds : List Dt} (h : Pd W0 gp v ds w) (hl : ds.length ≤ 1000) (hb : Below w.heap.size w w7) (k : Int) (t : ByteArray) :
  ∃ xs, (w7.alloc (.cells #[.int .i64 k, .string t, .slice none 0 0, .slice none 0 0, .int .i64 0] 29)).ownsRow (gp + 1) 29 5 v ds.length xs ∧ gp + 1 ≤ (w7.alloc (.cells #[.int .i64 k, .string t, .slice none 0 0, .slice none 0 0, .int .i64 0] 29)).heap.size ∧
   ∀ v' w9, w9.ownsRow (gp + 1) 29 5 v' (ds.length + 1) (xs ++ [.int .i64 k, .string t, .slice none 0 0, .slice none 0 0, .int .i64 0]) → (w7.alloc (.cells #[.int .i64 k, .string t, .slice none 0 0, .slice none 0 0, .int .i64 0] 29)).grownBy w9 v.ownBlock →
   (v'.ownBlock = v.ownBlock ∨ v'.ownBlock = some (w7.alloc (.cells #[.int .i64 k, .string t, .slice none 0 0, .slice none 0 0, .int .i64 0] 29)).heap.size) →
   w9.cell? ⟨gp, 3, none⟩ = some v ∧ w9.frozen? ⟨gp, 3, none⟩ = false ∧ Pd W0 gp v' (ds ++ [.mk k t [] [] 0]) (w9.setCell ⟨gp, 3, none⟩ v') := by
 have hat : Dt.At (fun g => w.heap.size ≤ g) w7 (.mk k t [] [] 0) #[.int .i64 k, .string t, .slice none 0 0, .slice none 0 0, .int .i64 0] := by
  rw [At_mk]; exact ⟨_, _, rfl, .inl ⟨rfl, rfl⟩, .inl ⟨rfl, rfl⟩⟩
 have hlt := h.lt
 obtain ⟨xs, h1, h2, h3⟩ := all_more h.o (by omega) hlt hat hb rfl
 refine ⟨xs, h1, h2, fun v' w9 a1 a2 a3 => ?_⟩
 obtain ⟨b1, b2⟩ := h3 v' w9 a1 a2 a3
 have hc9 : w9.heap[gp]? = _ := (b1.block gp (by omega)).trans h.c
 refine ⟨by rw [Lib.cell_of_heap hc9]; rfl, frozen_of_row w9 gp 3 _ 29 hc9, ?_, OwnD.setCell b2 (by show gp < _; omega) _, ?_⟩
 ·have := heap_setCell_same w9 gp 3 _ 29 v' hc9
  simpa using this
 ·exact (h.b.trans (b1.mono (by omega))).setCell (p := ⟨gp, 3, none⟩) (Nat.le_refl _) _
theorem aD_eq (i : Nat) : aD i = .mk 3 (⟨#[97]⟩ ++ ⟨#[dg i]⟩) [] [] 0 := by
 unfold aD symD
 congr 1
theorem bD_eq (i : Nat) : bD i = .mk 3 (⟨#[98]⟩ ++ ⟨#[dg i]⟩) [] [] 0 := by
 unfold bD symD
 congr 1
theorem run_app2 (w : World) (B ty : Nat) (v : Value) (n : Nat) (xs : List Value) (hown : w.ownsRow B 29 5 v n xs) (g0 c : Nat) (news : List Value) (hl : news.length = 10)
  (hnews : ∀ j u, news[j]? = some u → w.cell? ⟨g0, j, none⟩ = some u) (h1 : ∀ u ∈ news, u.oneCell' = true) (hn : n + 2 ≤ 1000000000) (hB : B ≤ w.heap.size) :
  ∃ v' w', (Builtin.append_ #[25, 25] ty #[v, .slice (some ⟨g0, 0, none⟩) 2 c]).run Try.prog w = .ok v' w' ∧ w'.ownsRow B 29 5 v' (n + 2) (xs ++ news) ∧ w.grownBy w' v.ownBlock ∧ (v'.ownBlock = v.ownBlock ∨ v'.ownBlock = some w.heap.size) := by
 obtain ⟨i, hi, hz, hs, hb⟩ := info_parts infoD
 have hnews' : ∀ j u, news[j]? = some u → w.cell? ((⟨g0, 0, none⟩ : Addr).add j) = some u := by
  intro j u hu
  have e : (⟨g0, 0, none⟩ : Addr).add j = ⟨g0, j, none⟩ := by unfold Addr.add; split <;> simp_all
  rw [e]; exact hnews j u hu
 have hl1 : news.length = 2 * 5 := by omega
 obtain ⟨v', w', hr, h2, h3, _⟩ := run_append_own (P := Try.prog) w B 25 ty 29 i (.agg Z5) 5 80 Try.underlying25 hi hz hs hb rfl (by decide) v n xs hown ⟨g0, 0, none⟩ 2 c news hl1 hnews' h1 (by unfold maxLen; omega) (by omega) hB
 refine ⟨v', w', hr, h2, h3, ?_⟩
 have hl2 : news.length = 2 * i.size := by rw [hs]; exact hl1
 rcases hown.2 with ⟨rfl, rfl⟩ | ⟨g, cap, cur, rfl, hbg, hg, hnc, hcm, hcs, htake⟩
 ·have hr2 := run_append_nil (P := Try.prog) w 25 ty 29 i (.agg Z5) Try.underlying25 hi hz ⟨g0, 0, none⟩ 2 c news hl2 hnews' (by decide) (by decide) (by rw [hb]; decide)
  rw [hr] at hr2
  injection hr2 with e1 e2
  right; rw [e1]; rfl
 ·by_cases hroom : n + 2 ≤ cap
  ·have hfit : n * i.size + news.length ≤ cur.size := by rw [hs, hl, hcs]; omega
   have hr2 := run_append_room (P := Try.prog) w 25 ty 29 i Try.underlying25 hi g n cap cur hg ⟨g0, 0, none⟩ 2 c news hl2 hnews' h1 hroom hfit
   rw [hr] at hr2
   injection hr2 with e1 e2
   left; rw [e1]; rfl
  ·have hlo : xs.length = n * i.size := by rw [hs]; exact hown.1
   have hr2 := run_append_grow (P := Try.prog) w 25 ty 29 i (.agg Z5) Try.underlying25 hi hz ⟨g, 0, none⟩ n cap xs hlo (hown.cells (g := g) rfl) ⟨g0, 0, none⟩ 2 c news hl2 hnews' (by omega) (by omega) (growslice_fits (by omega) (by rw [hb]; omega))
   rw [hr] at hr2
   injection hr2 with e1 e2
   right; rw [e1]; rfl
theorem wp_app2 {o : Oper} {a : Act} {w : World} {K : Act → World → Prop} {Q : Exit → Act → World → Prop} (s x : Operand)
  (ho : o.op = .call { callee := .builtin .append, args := #[s, x], argTypes := #[25, 25] }) (B : Nat) (v : Value) (n : Nat) (xs : List Value) (hs : a.eval s = v) (hown : w.ownsRow B 29 5 v n xs)
  (g0 c : Nat) (hx : a.eval x = .slice (some ⟨g0, 0, none⟩) 2 c) (news : List Value) (hl : news.length = 10)
  (hnews : ∀ j u, news[j]? = some u → w.cell? ⟨g0, j, none⟩ = some u) (h1 : ∀ u ∈ news, u.oneCell' = true) (hn : n + 2 ≤ 1000000000) (hB : B ≤ w.heap.size)
  (h : ∀ v' w', w'.ownsRow B 29 5 v' (n + 2) (xs ++ news) → w.grownBy w' v.ownBlock → (v'.ownBlock = v.ownBlock ∨ v'.ownBlock = some w.heap.size) → K (a.put o.dst v') w') : o.wp Try.prog a w K Q := by
 obtain ⟨v', w', hr, h2, h3, h4⟩ := run_app2 w B o.type v n xs hown g0 c news hl hnews h1 hn hB
 unfold Oper.wp execOp
 simp only [ho, resolve, invoke, builtin, Sem.run_bind, Sem.run_pure, Result.andThen_ok, List.map_toArray, List.map_cons, List.map_nil, hs, hx, hr]
 exact h v' w' h2 h3 h4
/-- Two data without parts more at the row's end. -/
theorem OwnD.snoc2 {B : Nat} {w w' : World} {v v' : Value} {ds : List Dt} {xs : List Value} {k1 k2 : Int} {t1 t2 : ByteArray} (hx : ∀ j (h : j < ds.length), ∃ cs : Array Value, cs.size = 5 ∧ (∀ i, i < 5 → xs[5 * j + i]? = cs[i]?) ∧ Dt.At (fun g => B ≤ g ∧ v.ownBlock ≠ some g) w ds[j] cs)
  (hl : xs.length = ds.length * 5) (hown : w'.ownsRow B 29 5 v' (ds.length + 2) (xs ++ [.int .i64 k1, .string t1, .slice none 0 0, .slice none 0 0, .int .i64 0, .int .i64 k2, .string t2, .slice none 0 0, .slice none 0 0, .int .i64 0])) (hg : w.grownBy w' v.ownBlock)
  (hv : v'.ownBlock = v.ownBlock ∨ v'.ownBlock = some w.heap.size) : OwnD B w' v' (ds ++ [.mk k1 t1 [] [] 0, .mk k2 t2 [] [] 0]) := by
 have key : ∀ (d : Dt) (cs : Array Value), Dt.At (fun g => B ≤ g ∧ v.ownBlock ≠ some g) w d cs → Dt.At (fun g => B ≤ g ∧ v'.ownBlock ≠ some g) w' d cs := by
  intro d cs h
  have h1 := Dt.At.bound d cs h
  have h2 := Dt.At.keeps (Keeps.of_grown hg (S := fun g => (B ≤ g ∧ v.ownBlock ≠ some g) ∧ g < w.heap.size) (fun g hs e => hs.1.2 e.symm)) d cs h1
  refine Dt.At.mono (fun g hs => ⟨hs.1.1, ?_⟩) d cs h2
  rcases hv with e | e
  ·rw [e]; exact hs.1.2
  ·rw [e]; intro e2; injection e2 with e2; omega
 have leaf : ∀ (k : Int) (t : ByteArray), Dt.At (fun g => B ≤ g ∧ v'.ownBlock ≠ some g) w' (.mk k t [] [] 0) #[.int .i64 k, .string t, .slice none 0 0, .slice none 0 0, .int .i64 0] := fun k t => by
  rw [At_mk]; exact ⟨_, _, rfl, .inl ⟨rfl, rfl⟩, .inl ⟨rfl, rfl⟩⟩
 refine ⟨_, by simpa using hown, fun j hj => ?_⟩
 by_cases hlt : j < ds.length
 ·obtain ⟨c, c5, c1, c2⟩ := hx j hlt
  refine ⟨c, c5, fun i hi => ?_, ?_⟩
  ·rw [List.getElem?_append_left (by omega)]; exact c1 i hi
  ·rw [List.getElem_append_left hlt]; exact key _ _ c2
 ·have hj' : j = ds.length ∨ j = ds.length + 1 := by simp at hj; omega
  rcases hj' with rfl | rfl
  ·refine ⟨#[.int .i64 k1, .string t1, .slice none 0 0, .slice none 0 0, .int .i64 0], rfl, fun i hi => ?_, ?_⟩
   rotate_left
   ·rw [List.getElem_append_right (by omega)]
    simp
    exact leaf k1 t1
   ·rw [List.getElem?_append_right (by omega), show 5 * ds.length + i - xs.length = i by omega]
    rcases i with _ | _ | _ | _ | _ | i <;> first | rfl | omega
  ·refine ⟨#[.int .i64 k2, .string t2, .slice none 0 0, .slice none 0 0, .int .i64 0], rfl, fun i hi => ?_, ?_⟩
   rotate_left
   ·rw [List.getElem_append_right (by omega)]
    simp
    exact leaf k2 t2
   ·rw [List.getElem?_append_right (by omega), show 5 * (ds.length + 1) + i - xs.length = i + 5 by omega]
    rcases i with _ | _ | _ | _ | _ | i <;> first | rfl | omega
theorem Pd.more2 {W0 w : World} {gp : Nat} {v : Value} {ds : List Dt} (h : Pd W0 gp v ds w) (hl : ds.length ≤ 1000) (k1 : Int) (t1 : ByteArray) (k2 : Int) (t2 : ByteArray) :
  ∃ xs, (w.alloc (.cells #[.int .i64 k1, .string t1, .slice none 0 0, .slice none 0 0, .int .i64 0, .int .i64 k2, .string t2, .slice none 0 0, .slice none 0 0, .int .i64 0] 29)).ownsRow (gp + 1) 29 5 v ds.length xs ∧ gp + 1 ≤ (w.alloc (.cells #[.int .i64 k1, .string t1, .slice none 0 0, .slice none 0 0, .int .i64 0, .int .i64 k2, .string t2, .slice none 0 0, .slice none 0 0, .int .i64 0] 29)).heap.size ∧
   ∀ v' w9, w9.ownsRow (gp + 1) 29 5 v' (ds.length + 2) (xs ++ [.int .i64 k1, .string t1, .slice none 0 0, .slice none 0 0, .int .i64 0, .int .i64 k2, .string t2, .slice none 0 0, .slice none 0 0, .int .i64 0]) → (w.alloc (.cells #[.int .i64 k1, .string t1, .slice none 0 0, .slice none 0 0, .int .i64 0, .int .i64 k2, .string t2, .slice none 0 0, .slice none 0 0, .int .i64 0] 29)).grownBy w9 v.ownBlock →
   (v'.ownBlock = v.ownBlock ∨ v'.ownBlock = some (w.alloc (.cells #[.int .i64 k1, .string t1, .slice none 0 0, .slice none 0 0, .int .i64 0, .int .i64 k2, .string t2, .slice none 0 0, .slice none 0 0, .int .i64 0] 29)).heap.size) →
   w9.cell? ⟨gp, 3, none⟩ = some v ∧ w9.frozen? ⟨gp, 3, none⟩ = false ∧ Pd W0 gp v' (ds ++ [.mk k1 t1 [] [] 0, .mk k2 t2 [] [] 0]) (w9.setCell ⟨gp, 3, none⟩ v') := by
 have hlt := h.lt
 have hb8 : Below w.heap.size w (w.alloc (.cells #[.int .i64 k1, .string t1, .slice none 0 0, .slice none 0 0, .int .i64 0, .int .i64 k2, .string t2, .slice none 0 0, .slice none 0 0, .int .i64 0] 29)) := (Below.refl _ _).alloc (Nat.le_refl _) _
 obtain ⟨xs, hown8, hx8⟩ := OwnD.below h.o hb8
 have hz8 : (w.alloc (.cells #[.int .i64 k1, .string t1, .slice none 0 0, .slice none 0 0, .int .i64 0, .int .i64 k2, .string t2, .slice none 0 0, .slice none 0 0, .int .i64 0] 29)).heap.size = w.heap.size + 1 := by simp
 refine ⟨xs, hown8, by omega, fun v' w9 a1 a2 a3 => ?_⟩
 have hvl : ∀ k, v.ownBlock = some k → gp + 1 ≤ k ∧ k < w.heap.size := fun k hk => h.o.lt hk
 have b1 : Below (gp + 1) w w9 := (hb8.mono (by omega)).grown a2 (by omega) (fun k hk => (hvl k hk).1)
 have hc9 : w9.heap[gp]? = _ := (b1.block gp (by omega)).trans h.c
 refine ⟨by rw [Lib.cell_of_heap hc9]; rfl, frozen_of_row w9 gp 3 _ 29 hc9, ?_, OwnD.setCell (OwnD.snoc2 hx8 hown8.1 a1 a2 a3) (by show gp < _; omega) _, ?_⟩
 ·have := heap_setCell_same w9 gp 3 _ 29 v' hc9
  simpa using this
 ·exact (h.b.trans (b1.mono (by omega))).setCell (p := ⟨gp, 3, none⟩) (Nat.le_refl _) _
theorem nD_text (i : Nat) (hi : i < 12) : ∃ q r : Nat, ∃ t, i = 10 * q + r ∧ q ≤ 1 ∧ r < 10 ∧ (q = 0 → t = ⟨#[dg r]⟩) ∧ (q = 1 → t = ⟨#[dg 1, dg r]⟩) ∧ nD i = .mk 1 t [] [] 0 := by
 by_cases h : i < 10
 ·exact ⟨0, i, ⟨#[dg i]⟩, by omega, by omega, h, fun _ => rfl, by omega, by unfold nD; rw [if_pos h]⟩
 ·refine ⟨1, i - 10, ⟨#[dg 1, dg (i - 10)]⟩, by omega, by omega, by omega, by omega, fun _ => rfl, ?_⟩
  unfold nD; rw [if_neg h, show i / 10 = 1 by omega, show i % 10 = i - 10 by omega]
theorem rcO_at (a b k : Nat) (ha : a < 4) (hb : b < 4) (hk : k < 12) : rcO a b k = true :=
 List.all_eq_true.1 (List.all_eq_true.1 (List.all_eq_true.1 rcO_all a (List.mem_range.2 ha)) b (List.mem_range.2 hb)) k (List.mem_range.2 hk)
theorem rcC_at (a b : Nat) (ha : a < 4) (hb : b < 4) : chkD [] (cP a b) (oneOf ⟨#[49]⟩) = 0 ∧ (cP a b).wf ∧ (cP a b).pat = true ∧ (cP a b).size ≤ 100 := by
 have h := List.all_eq_true.1 (List.all_eq_true.1 rcC_all a (List.mem_range.2 ha)) b (List.mem_range.2 hb)
 simp only [Bool.and_eq_true, decide_eq_true_eq, beq_iff_eq] at h
 exact ⟨h.1.1.1, wfb_is _ h.1.1.2, h.1.2, h.2⟩
theorem cD_sz : ((List.range 12).all fun k => decide ((cD k).size ≤ 1000)) = true := by kernel_rfl
theorem cD_at (k : Nat) (hk : k < 12) : (cD k).size ≤ 1000 := by
 have h := List.all_eq_true.1 cD_sz k (List.mem_range.2 hk)
 simpa using h
theorem one_wf : (oneOf ⟨#[49]⟩).wf ∧ (oneOf ⟨#[49]⟩).size ≤ 9000 := ⟨wfb_is _ (by kernel_rfl), by
 have : decide ((oneOf ⟨#[49]⟩).size ≤ 9000) = true := by kernel_rfl
 simpa using this⟩
theorem RowN.inner {S F : Nat → Prop} {w : World} {ao : Option Addr} {n c : Nat} {bs : List Bd} (h : RowN S F w (.slice ao n c) bs) (i : Nat) (hi : i < bs.length) :
  ∃ (g : Nat) (lo : Option Addr) (lc : Nat) (F' : Nat → Prop), ao = some ⟨g, 0, none⟩ ∧ w.cell? ⟨g, i * 12 + 11, none⟩ = some (.slice lo bs[i].rows.length lc) ∧ RowN S F' w (.slice lo bs[i].rows.length lc) bs[i].rows := by
 rw [RowN_iff] at h
 obtain ⟨xs, cc, hown, hF, hget⟩ := h
 obtain ⟨cs, h12, hxs, hat⟩ := hget i hi
 generalize hb : bs[i] = b at hat ⊢
 obtain ⟨nm, q, d, l⟩ := b
 rw [OAt_mk] at hat
 obtain ⟨m1, l1, m2, l2, lv, rfl, hn, hd, hl⟩ := hat
 obtain ⟨lo, lc, rfl⟩ := hl.form
 rcases hown.2 with ⟨e, hz⟩ | ⟨g, cap, cur, e, _, hh, hnc, hcm, hcs, ht⟩
 ·omega
 ·injection e with e1 e2 e3
  subst e1 e3
  have key : ∀ t v, t < 12 → (nm.five m1 l1 ++ [Value.int .i64 q] ++ d.five m2 l2 ++ [.slice lo l.length lc])[t]? = some v → w.cell? ⟨g, i * 12 + t, none⟩ = some v := by
   intro t v ht12 hv
   rw [cell_of_row _ _ _ _ _ _ hh, ← Array.getElem?_toList]
   have h1 := hxs t ht12
   rw [List.getElem?_toArray, hv, ← ht, List.getElem?_take] at h1
   split at h1
   ·rw [← h1]; congr 1; omega
   ·cases h1
  exact ⟨g, lo, lc, _, rfl, key 11 _ (by decide) rfl, hl⟩
def rcS (a b k : Nat) : Bool := match mRf [] 8000 (cP a b) (cD k) with
 | none => true
 | some r => (List.range (k - a - b)).all fun i => decide (((((r[a]?).getD bZ).rows[i]?).getD bZ).dat.size ≤ 1000)
theorem rcS_all : ((List.range 4).all fun a => (List.range 4).all fun b => (List.range 12).all fun k => rcS a b k) = true := by kernel_rfl
theorem rcS_at (a b k : Nat) (ha : a < 4) (hb : b < 4) (hk : k < 12) : rcS a b k = true :=
 List.all_eq_true.1 (List.all_eq_true.1 (List.all_eq_true.1 rcS_all a (List.mem_range.2 ha)) b (List.mem_range.2 hb)) k (List.mem_range.2 hk)
/-- What the law asks, said apart. -/
theorem rcR_is {a b k : Nat} {r : List Bd} (h : rcR a b k r = true) (hab : a + b ≤ k) (hs : ((List.range (k - a - b)).all fun i => decide (((((r[a]?).getD bZ).rows[i]?).getD bZ).dat.size ≤ 1000)) = true) : ∃ B : Bd, r.length = a + b + 1 ∧ (∀ h : a < r.length, r[a] = B) ∧ B.deep = 1 ∧ B.rows.length = k - a - b ∧ ∀ j, j < k - a - b → ∀ (h1 : j < B.rows.length) (h2 : a + j < (cDs k).length), B.rows[j].dat.same (cDs k)[a + j] = true ∧ B.rows[j].dat.size ≤ 1000 := by
 unfold rcR at h
 simp only [Bool.and_eq_true, beq_iff_eq] at h
 obtain ⟨⟨⟨h1, h2⟩, h3⟩, h4⟩ := h
 refine ⟨_, h1, fun hr => ?_, h2, h3, fun j hj j1 j2 => ?_⟩
 ·rw [List.getElem?_eq_getElem hr]; rfl
 ·have := List.all_eq_true.1 h4 j (List.mem_range.2 hj)
  rw [List.getElem?_eq_getElem j1, List.getElem?_eq_getElem j2] at this
  have h5 := List.all_eq_true.1 hs j (List.mem_range.2 hj)
  rw [List.getElem?_eq_getElem j1, decide_eq_true_eq] at h5
  exact ⟨this, h5⟩
def CaI (W0 : World) (gp n : Nat) (ds0 : List Dt) (f : Nat → Dt) (iv : Value) (wr : World) : Prop := ∃ (i : Nat) (v : Value), i ≤ n ∧ iv = .int .i64 (i : Int) ∧ Pd W0 gp v (ds0 ++ (List.range i).map f) wr
theorem ranges (ds0 : List Dt) (f : Nat → Dt) (i : Nat) : ds0 ++ (List.range (i + 1)).map f = (ds0 ++ (List.range i).map f) ++ [f i] := by rw [List.range_succ, List.map_append, ← List.append_assoc]; rfl
set_option maxHeartbeats 16000000 in
set_option maxRecDepth 100000 in
theorem counts_walk (a0 b0 k0 : Int) (w : World) (ha0 : I64 a0) (hb0 : I64 b0) (hk0 : I64 k0) : Calls Try.prog 13 #[.int .i64 a0, .int .i64 b0, .int .i64 k0] w (RetBool true w) := by
 have BB := Lib.hid (Below.refl w.heap.size w)
 obtain ⟨a, ha, ha2⟩ := mod_nat a0 4 (by decide)
 obtain ⟨b, hb, hbb⟩ := mod_nat b0 4 (by decide)
 obtain ⟨k, hk, hk2⟩ := mod_nat k0 12 (by decide)
 have F1 := Lib.hid (fun W => within4_any a0 4 W ha0.1 ha0.2 (by decide) (by decide))
 have F2 := Lib.hid (fun W => within4_any b0 4 W hb0.1 hb0.2 (by decide) (by decide))
 have F3 := Lib.hid (fun W => within4_any k0 12 W hk0.1 hk0.2 (by decide) (by decide))
 rw [show a0 % 4 = (a : Int) from ha.symm] at F1
 rw [show b0 % 4 = (b : Int) from hb.symm] at F2
 rw [show k0 % 12 = (k : Int) from hk.symm] at F3
 clear ha hb hk ha0 hb0 hk0
 go_enter Try.func13, Try.ntmps13
 go_wp2_with (go_at_call 14; refine (known_any _).mono ?_; rintro e w1 ⟨rfl, hb⟩; replace BB := Lib.hid (BB.out.trans (hb.mono BB.out.size)); clear hb)
 refine (F1.out _).mono ?_
 rintro e w2 ⟨rfl, rfl⟩
 go_wp2_with fail
 refine (F2.out _).mono ?_
 rintro e w2 ⟨rfl, rfl⟩
 go_wp2_with fail
 refine (F3.out _).mono ?_
 rintro e w2 ⟨rfl, rfl⟩
 clear F1 F2 F3
 have hp0 : Pd w1 w1.heap.size (.slice none 0 0) [] (w1.alloc (.cells #[.int .i64 4, .string ⟨#[]⟩, .slice none 0 0, .slice none 0 0, .int .i64 0] 29)) := ⟨alloc_at w1 _, OwnD.nil _ _, (Below.refl _ _).alloc (Nat.le_refl _) _⟩
 have H0 : Hid (CaI w1 w1.heap.size a [] aD (.int .i64 0) (w1.alloc (.cells #[.int .i64 4, .string ⟨#[]⟩, .slice none 0 0, .slice none 0 0, .int .i64 0] 29))) := ⟨0, _, Nat.zero_le _, rfl, hp0⟩
 clear hp0
 go_wp2_with fail
 generalize w1.alloc (.cells #[.int .i64 4, .string ⟨#[]⟩, .slice none 0 0, .slice none 0 0, .int .i64 0] 29) = Wp at H0 ⊢
 obtain ⟨gp, hgp⟩ : ∃ gp, gp = w1.heap.size := ⟨_, rfl⟩
 rw [← hgp] at H0 ⊢
 have HGP := Lib.hid hgp
 clear hgp
 go_loopw [11] (fun iv wr => CaI w1 gp a [] aD iv wr) (fun iv _ => a - (intOf iv).toNat)
 case atStart => exact H0.out
 case round =>
  clear H0
  obtain ⟨i, v, hi, rfl, hp⟩ := hrel
  have HP := Lib.hid hp
  have hc := hp.c
  clear hp
  by_cases hin : i < a
  ·have q1 : decide ((i : Int) < (a : Int)) = true := decide_eq_true (by omega)
   have cv : wr.cell? ⟨gp, 3, none⟩ = some v := by rw [Lib.cell_of_heap hc]; rfl
   have hcv := conv1 wr i (by omega)
   have HA1 := Lib.hid ((Below.refl wr.heap.size wr).alloc (Nat.le_refl _) (.cells #[.int .u8 (48 + (i : Int))] 5))
   obtain ⟨xs, h1, h2, h3⟩ := HP.out.more (by simp; omega) HA1.out 3 (⟨#[97]⟩ ++ ⟨#[dg i]⟩)
   have cv7 : (wr.alloc (.cells #[.int .u8 (48 + (i : Int))] 5)).cell? ⟨gp, 3, none⟩ = some v := (HA1.out.cell (p := ⟨gp, 3, none⟩) HP.out.lt).trans cv
   have hln : ([] ++ (List.range i).map aD).length = i := by simp
   rw [hln] at h1 h3
   have HO8 := Lib.hid h1
   have HN := Lib.hid h3
   clear h1 h3 hc hln
   obtain ⟨di, hdi⟩ : ∃ di, di = dg i := ⟨_, rfl⟩
   rw [← hdi] at hcv HO8 HN h2
   have HDI := Lib.hid hdi
   clear hdi
   have HZ8 := Lib.hid h2
   have hi9 : i + 1 ≤ 1000000000 := by omega
   clear h2
   go_wp2_with (refine wpList_wanted (by rfl) fun K hK => ?_; refine wp_app (Operand.tmp 33) (Operand.tmp 41) rfl (gp + 1) v i xs rfl HO8.out (wr.heap.size + 1) 1 rfl [.int .i64 3, .string (⟨#[97]⟩ ++ ⟨#[di]⟩), .slice none 0 0, .slice none 0 0, .int .i64 0] rfl (fun j u hu => by rw [show wr.heap.size + 1 = (wr.alloc (.cells #[.int .u8 (48 + (i : Int))] 5)).heap.size by simp, Lib.cell_of_heap (alloc_at (wr.alloc (.cells #[.int .u8 (48 + (i : Int))] 5)) _)]; simpa using hu) (by simp [Value.oneCell']) hi9 HZ8.out ?_; intro v' w9 hown9 hg9 hv9; obtain ⟨so, sn, sc, rfl⟩ := own_form hown9; obtain ⟨cc, cf, hM⟩ := HN.out _ w9 hown9 hg9 hv9; have HM := Lib.hid hM; clear hown9 hg9 hv9 hM HN HO8; refine hK _ _ ?_; clear hK K)
   go_roundw
   case rel => exact ⟨i + 1, _, hin, by go_num, by rw [ranges, aD_eq, ← HDI.out]; exact HM.out⟩
   case measure => simp [intOf]; omega
  ·have q1 : decide ((i : Int) < (a : Int)) = false := decide_eq_false (by omega)
   have hia : i = a := by omega
   rw [hia] at HP
   have cv : wr.cell? ⟨gp, 3, none⟩ = some v := by rw [Lib.cell_of_heap hc]; rfl
   obtain ⟨xs, h1, h2, h3⟩ := HP.out.more2 (by simp; omega) 3 ⟨#[120]⟩ 3 ⟨#[46, 46, 46]⟩
   have hln : ([] ++ (List.range a).map aD).length = a := by simp
   rw [hln] at h1 h3
   have HO8 := Lib.hid h1
   have HN := Lib.hid h3
   have HZ8 := Lib.hid h2
   have ha9 : a + 2 ≤ 1000000000 := by omega
   have cv7 : (wr.alloc (.cells #[.int .i64 3, .string ⟨#[120]⟩, .slice none 0 0, .slice none 0 0, .int .i64 0, .int .i64 3, .string ⟨#[46, 46, 46]⟩, .slice none 0 0, .slice none 0 0, .int .i64 0] 29)).cell? ⟨gp, 3, none⟩ = some v := (((Below.refl wr.heap.size wr).alloc (Nat.le_refl _) _).cell (p := ⟨gp, 3, none⟩) HP.out.lt).trans cv
   clear h1 h3 h2 hc hln hia
   go_upto_region 10 with (refine wpList_wanted (by rfl) fun K hK => ?_; refine wp_app2 (Operand.tmp 45) (Operand.tmp 48) rfl (gp + 1) v a xs rfl HO8.out wr.heap.size 2 rfl [.int .i64 3, .string ⟨#[120]⟩, .slice none 0 0, .slice none 0 0, .int .i64 0, .int .i64 3, .string ⟨#[46, 46, 46]⟩, .slice none 0 0, .slice none 0 0, .int .i64 0] rfl (fun j u hu => by rw [Lib.cell_of_heap (alloc_at wr _)]; simpa using hu) (by simp [Value.oneCell']) ha9 HZ8.out ?_; intro v' w9 hown9 hg9 hv9; obtain ⟨so, sn, sc, rfl⟩ := own_form hown9; obtain ⟨cc, cf, hM⟩ := HN.out _ w9 hown9 hg9 hv9; have HM := Lib.hid hM; clear hown9 hg9 hv9 hM HN HO8; refine hK _ _ ?_; clear hK K)
   obtain ⟨ds0, hds0⟩ : ∃ ds0, ds0 = ([] ++ (List.range a).map aD) ++ [.mk 3 ⟨#[120]⟩ [] [] 0, .mk 3 ⟨#[46, 46, 46]⟩ [] [] 0] := ⟨_, rfl⟩
   rw [← hds0] at HM
   have hl0 : ds0.length = a + 2 := by rw [hds0]; simp
   have HDS := Lib.hid hds0
   have H0 : Hid (CaI w1 gp b ds0 bD (.int .i64 0) (w9.setCell ⟨gp, 3, none⟩ (.slice so sn sc))) := ⟨0, _, Nat.zero_le _, rfl, by rw [List.range_zero, List.map_nil, List.append_nil]; exact HM.out⟩
   generalize w9.setCell ⟨gp, 3, none⟩ (.slice so sn sc) = W9 at H0 ⊢
   clear hds0 HM cv cv7 HZ8 HP q1 hin hi ha9 cc cf
   go_wp2_with fail
   go_loopw [12] (fun iv wr => CaI w1 gp b ds0 bD iv wr) (fun iv _ => b - (intOf iv).toNat)
   case atStart => exact H0.out
   case round =>
    clear H0
    obtain ⟨i, v, hi, rfl, hp⟩ := hrel
    have HP := Lib.hid hp
    have hc := hp.c
    clear hp
    by_cases hin : i < b
    ·have q1 : decide ((i : Int) < (b : Int)) = true := decide_eq_true (by omega)
     have cv : wr.cell? ⟨gp, 3, none⟩ = some v := by rw [Lib.cell_of_heap hc]; rfl
     have hcv := conv1 wr i (by omega)
     have HA1 := Lib.hid ((Below.refl wr.heap.size wr).alloc (Nat.le_refl _) (.cells #[.int .u8 (48 + (i : Int))] 5))
     obtain ⟨xs, h1, h2, h3⟩ := HP.out.more (by rw [List.length_append, hl0]; simp; omega) HA1.out 3 (⟨#[98]⟩ ++ ⟨#[dg i]⟩)
     have cv7 : (wr.alloc (.cells #[.int .u8 (48 + (i : Int))] 5)).cell? ⟨gp, 3, none⟩ = some v := (HA1.out.cell (p := ⟨gp, 3, none⟩) HP.out.lt).trans cv
     have hln : (ds0 ++ (List.range i).map bD).length = a + 2 + i := by rw [List.length_append, hl0]; simp
     rw [hln] at h1 h3
     have HO8 := Lib.hid h1
     have HN := Lib.hid h3
     clear h1 h3 hc hln
     obtain ⟨di, hdi⟩ : ∃ di, di = dg i := ⟨_, rfl⟩
     rw [← hdi] at hcv HO8 HN h2
     have HDI := Lib.hid hdi
     clear hdi
     have HZ8 := Lib.hid h2
     have hi9 : a + 2 + i + 1 ≤ 1000000000 := by omega
     clear h2
     go_wp2_with (refine wpList_wanted (by rfl) fun K hK => ?_; refine wp_app (Operand.tmp 57) (Operand.tmp 65) rfl (gp + 1) v (a + 2 + i) xs rfl HO8.out (wr.heap.size + 1) 1 rfl [.int .i64 3, .string (⟨#[98]⟩ ++ ⟨#[di]⟩), .slice none 0 0, .slice none 0 0, .int .i64 0] rfl (fun j u hu => by rw [show wr.heap.size + 1 = (wr.alloc (.cells #[.int .u8 (48 + (i : Int))] 5)).heap.size by simp, Lib.cell_of_heap (alloc_at (wr.alloc (.cells #[.int .u8 (48 + (i : Int))] 5)) _)]; simpa using hu) (by simp [Value.oneCell']) hi9 HZ8.out ?_; intro v' w9 hown9 hg9 hv9; obtain ⟨so, sn, sc, rfl⟩ := own_form hown9; obtain ⟨cc, cf, hM⟩ := HN.out _ w9 hown9 hg9 hv9; have HM := Lib.hid hM; clear hown9 hg9 hv9 hM HN HO8; refine hK _ _ ?_; clear hK K)
     go_roundw
     case rel => exact ⟨i + 1, _, hin, by go_num, by rw [ranges, bD_eq, ← HDI.out]; exact HM.out⟩
     case measure => simp [intOf]; omega
    ·have q1 : decide ((i : Int) < (b : Int)) = false := decide_eq_false (by omega)
     have hib : i = b := by omega
     rw [hib] at HP
     have HPP : Hid (Pd w1 gp v (cPs a b) wr) := by
      have h9 := HP.out
      have e : ds0 ++ (List.range b).map bD = cPs a b := by rw [HDS.out, List.nil_append]; rfl
      rw [e] at h9; exact h9
     have hgpw := HP.out.lt
     have hd0 : Pd wr wr.heap.size (.slice none 0 0) [] (wr.alloc (.cells #[.int .i64 4, .string ⟨#[]⟩, .slice none 0 0, .slice none 0 0, .int .i64 0] 29)) := ⟨alloc_at wr _, OwnD.nil _ _, (Below.refl _ _).alloc (Nat.le_refl _) _⟩
     have H0 : Hid (CaI wr wr.heap.size k [] nD (.int .i64 0) (wr.alloc (.cells #[.int .i64 4, .string ⟨#[]⟩, .slice none 0 0, .slice none 0 0, .int .i64 0] 29))) := ⟨0, _, Nat.zero_le _, rfl, hd0⟩
     clear hd0 HP HDS hc hib
     go_wp2_with fail
     clear q1 hin hi
     generalize wr.alloc (.cells #[.int .i64 4, .string ⟨#[]⟩, .slice none 0 0, .slice none 0 0, .int .i64 0] 29) = Wd at H0 ⊢
     obtain ⟨W2, hW2⟩ : ∃ W2, W2 = wr := ⟨_, rfl⟩
     rw [← hW2] at H0 HPP hgpw ⊢
     clear hW2 wr
     obtain ⟨gd, hgd⟩ : ∃ gd, gd = W2.heap.size := ⟨_, rfl⟩
     rw [← hgd] at H0 hgpw ⊢
     have HGD := Lib.hid hgd
     clear hgd
     go_loopw [14] (fun iv wr => CaI W2 gd k [] nD iv wr) (fun iv _ => k - (intOf iv).toNat)
     case atStart => exact H0.out
     case round =>
      clear H0
      obtain ⟨i, v4, hi, rfl, hp⟩ := hrel
      have HP := Lib.hid hp
      have hc := hp.c
      clear hp
      by_cases hin : i < k
      ·have q1 : decide ((i : Int) < (k : Int)) = true := decide_eq_true (by omega)
       have cv : wr.cell? ⟨gd, 3, none⟩ = some v4 := by rw [Lib.cell_of_heap hc]; rfl
       clear hc
       obtain ⟨q, r, t, hir, hq1, hr9, ht0, ht1, hnd⟩ := nD_text i (by omega)
       have HND := Lib.hid hnd
       clear hnd
       have hqd : (i : Int).tdiv 10 = (q : Int) := by rw [Int.tdiv_eq_ediv_of_nonneg (by omega)]; omega
       have hrd : (i : Int).tmod 10 = (r : Int) := by rw [Int.tmod_eq_emod_of_nonneg (by omega)]; omega
       have hw1 : IntKind.i64.wrap (q : Int) = (q : Int) := IntWalk.i64_in _ (by omega)
       have hw2 : IntKind.i64.wrap (48 + (q : Int)) = 48 + (q : Int) := IntWalk.i64_in _ (by omega)
       have hw3 : IntKind.u8.wrap (48 + (q : Int)) = 48 + (q : Int) := IntWalk.u8_in _ (by omega)
       have hw4 : IntKind.i64.wrap (r : Int) = (r : Int) := IntWalk.i64_in _ (by omega)
       have hw5 : IntKind.i64.wrap (48 + (r : Int)) = 48 + (r : Int) := IntWalk.i64_in _ (by omega)
       have hw6 : IntKind.u8.wrap (48 + (r : Int)) = 48 + (r : Int) := IntWalk.u8_in _ (by omega)
       have hw7 : IntKind.i64.wrap (1 - (q : Int)) = 1 - (q : Int) := IntWalk.i64_in _ (by omega)
       have hmn : min (1 : Int) (q : Int) = (q : Int) := by omega
       clear hir
       go_upto_region 18 with fail
       refine wp_region_noPanic ?_
       refine wp_region_late (S := fun W => W.cell? ⟨gd, 3, none⟩ = some v4) (fun i => i == 21) (by kernel_rfl) cv (fun hHeld => ?_)
       have hVB : Below wr.heap.size wr wr.drew := (Below.refl _ _).drew
       have HPV := Lib.hid (HP.out.below hVB)
       have hcv := conv2 wr.drew q r (by omega) hr9
       generalize wr.drew = V at hHeld hVB hcv HPV ⊢
       have HCV := Lib.hid hcv
       clear hcv
       have HV4 := Lib.hid hHeld
       have HA1 := Lib.hid ((Below.refl V.heap.size V).alloc (Nat.le_refl _) (.cells #[.int .u8 (48 + (q : Int)), .int .u8 (48 + (r : Int))] 5))
       obtain ⟨xs, h1, h2, h3⟩ := HPV.out.more (by simp; omega) HA1.out 1 t
       have hln : ([] ++ (List.range i).map nD).length = i := by simp
       rw [hln] at h1 h3
       have HO8 := Lib.hid h1
       have HN := Lib.hid h3
       have HZ8 := Lib.hid h2
       have hi9 : i + 1 ≤ 1000000000 := by omega
       clear h1 h3 h2 hln
       refine wpAnyL_take (B := [1, 19, 20, 21]) (i := 0) (v := ?v1) rfl (by kernel_rfl) (by kernel_rfl) (by kernel_rfl) (by kernel_rfl) (fun _ _ _ h => h) (Or.inl ⟨rfl, fun w' hw' => ?h1⟩) hHeld ?r1
       case h1 => (go_simp; try omega); try with_reducible rfl
       simp only [zt,zs,zz,Act.put,zi,zy,zx]
       refine wpAnyL_take (B := [19, 20, 21]) (i := 1) (v := ?v3) rfl (by kernel_rfl) (by kernel_rfl) (by kernel_rfl) (by kernel_rfl) (fun _ _ _ h => h) (Or.inl ⟨rfl, fun w' hw' => ?h3⟩) hHeld ?r3
       case h3 => (obtain d0 := hw'; go_simp); try with_reducible rfl
       simp only [zt,zs,zz,Act.put,zi,zy,zx]
       refine wpAnyL_take (B := [3, 4, 5, 10, 11, 16, 17, 18, 19, 20, 21]) (i := 2) (v := ?v5) rfl (by kernel_rfl) (by kernel_rfl) (by kernel_rfl) (by kernel_rfl) (fun _ _ _ h => h) (Or.inl ⟨rfl, fun w' hw' => ?h5⟩) hHeld ?r5
       case h5 => (go_simp; try omega); try with_reducible rfl
       simp only [zt,zs,zz,Act.put,zi,zy,zx]
       refine wpAnyL_take (B := [4, 5, 10, 11, 16, 17, 18, 19, 20, 21]) (i := 3) (v := Value.int .i64 (q : Int)) rfl (by kernel_rfl) (by kernel_rfl) (by kernel_rfl) (by kernel_rfl) (fun _ _ _ h => h) (Or.inl ⟨rfl, fun w' hw' => ?_⟩) hHeld ?_
       ·(go_simp; try rfl)
       simp only [zt,zs,zz,Act.put,zi,zy,zx]
       refine wpAnyL_take (B := [5, 10, 11, 16, 17, 18, 19, 20, 21]) (i := 4) (v := Value.int .i64 (48 + (q : Int))) rfl (by kernel_rfl) (by kernel_rfl) (by kernel_rfl) (by kernel_rfl) (fun _ _ _ h => h) (Or.inl ⟨rfl, fun w' hw' => ?_⟩) hHeld ?_
       ·(go_simp; try rfl)
       simp only [zt,zs,zz,Act.put,zi,zy,zx]
       refine wpAnyL_take (B := [10, 11, 16, 17, 18, 19, 20, 21]) (i := 5) (v := Value.int .u8 (48 + (q : Int))) rfl (by kernel_rfl) (by kernel_rfl) (by kernel_rfl) (by kernel_rfl) (fun _ _ _ h => h) (Or.inl ⟨rfl, fun w' hw' => ?_⟩) hHeld ?_
       ·(go_simp; try rfl)
       simp only [zt,zs,zz,Act.put,zi,zy,zx]
       refine wpAnyL_take (B := [7, 8, 9, 10, 11, 16, 17, 18, 19, 20, 21]) (i := 6) (v := ?v13) rfl (by kernel_rfl) (by kernel_rfl) (by kernel_rfl) (by kernel_rfl) (fun _ _ _ h => h) (Or.inl ⟨rfl, fun w' hw' => ?h13⟩) hHeld ?r13
       case h13 => (go_simp; try omega); try with_reducible rfl
       simp only [zt,zs,zz,Act.put,zi,zy,zx]
       refine wpAnyL_take (B := [8, 9, 10, 11, 16, 17, 18, 19, 20, 21]) (i := 7) (v := Value.int .i64 (r : Int)) rfl (by kernel_rfl) (by kernel_rfl) (by kernel_rfl) (by kernel_rfl) (fun _ _ _ h => h) (Or.inl ⟨rfl, fun w' hw' => ?_⟩) hHeld ?_
       ·(go_simp; try rfl)
       simp only [zt,zs,zz,Act.put,zi,zy,zx]
       refine wpAnyL_take (B := [9, 10, 11, 16, 17, 18, 19, 20, 21]) (i := 8) (v := Value.int .i64 (48 + (r : Int))) rfl (by kernel_rfl) (by kernel_rfl) (by kernel_rfl) (by kernel_rfl) (fun _ _ _ h => h) (Or.inl ⟨rfl, fun w' hw' => ?_⟩) hHeld ?_
       ·(go_simp; try rfl)
       simp only [zt,zs,zz,Act.put,zi,zy,zx]
       refine wpAnyL_take (B := [10, 11, 16, 17, 18, 19, 20, 21]) (i := 9) (v := Value.int .u8 (48 + (r : Int))) rfl (by kernel_rfl) (by kernel_rfl) (by kernel_rfl) (by kernel_rfl) (fun _ _ _ h => h) (Or.inl ⟨rfl, fun w' hw' => ?_⟩) hHeld ?_
       ·(go_simp; try rfl)
       simp only [zt,zs,zz,Act.put,zi,zy,zx]
       refine wpAnyL_take (B := [13, 14, 15, 16, 17, 18, 19, 20, 21]) (i := 12) (v := ?v21) rfl (by kernel_rfl) (by kernel_rfl) (by kernel_rfl) (by kernel_rfl) (fun _ _ _ h => h) (Or.inl ⟨rfl, fun w' hw' => ?h21⟩) hHeld ?r21
       case h21 => (go_simp; try omega); try with_reducible rfl
       simp only [zt,zs,zz,Act.put,zi,zy,zx]
       refine wpAnyL_take (B := [14, 15, 16, 17, 18, 19, 20, 21]) (i := 13) (v := Value.int .i64 (q : Int)) rfl (by kernel_rfl) (by kernel_rfl) (by kernel_rfl) (by kernel_rfl) (fun _ _ _ h => h) (Or.inl ⟨rfl, fun w' hw' => ?_⟩) hHeld ?_
       ·(go_simp; try rfl)
       simp only [zt,zs,zz,Act.put,zi,zy,zx]
       refine wpAnyL_ready (rs := [10, 14]) (by kernel_rfl) (by simp) ?_
       refine (AllL.cons rfl rfl (fun K hK => ?_) (AllL.cons rfl rfl (fun K hK => ?_) AllL.nil))
       ·skip
        go_simp
        have b9 : Below V.heap.size V (V.alloc (.cells #[.int .u8 (48 + (q : Int)), .int .u8 (48 + (r : Int))] 5)) := (Below.refl _ _).alloc (Nat.le_refl _) _
        have s9 := (b9.cell (p := ⟨gd, 3, none⟩) HPV.out.lt).trans hHeld
        refine hK.out _ _ s9 (fun hHeld => ?_)
        clear s9
        clear hK K
        try simp only [zt,zs,zz,Act.put,zi,zy,zx]
        refine wpAnyL_ready (rs := [11, 14]) (by kernel_rfl) (by simp) ?_
        refine (AllL.cons rfl rfl (fun K hK => ?_) (AllL.cons rfl rfl (fun K hK => ?_) AllL.nil))
        ·skip
         have hcv := HCV.out
         go_simp
         refine hK.out _ _ hHeld (fun hHeld => ?_)
         clear hcv
         clear hK K
         try simp only [zt,zs,zz,Act.put,zi,zy,zx]
         refine wpAnyL_ready (rs := [14]) (by kernel_rfl) (by simp) ?_
         refine (AllL.cons rfl rfl (fun K hK => ?_) AllL.nil)
         go_simp
         try simp only [hmn]
         refine hK.out _ _ hHeld (fun hHeld => ?_)
         clear hK K
         try simp only [zt,zs,zz,Act.put,zi,zy,zx]
         refine wpAnyL_take (B := [16, 17, 18, 19, 20, 21]) (i := 15) (v := Value.int .i64 (1 - (q : Int))) rfl (by kernel_rfl) (by kernel_rfl) (by kernel_rfl) (by kernel_rfl) (fun _ _ _ h => h) (Or.inl ⟨rfl, fun w' hw' => ?_⟩) hHeld ?_
         ·(go_simp; try rfl)
         simp only [zt,zs,zz,Act.put,zi,zy,zx]
         refine wpAnyL_take (B := [17, 18, 19, 20, 21]) (i := 16) (v := Value.string t) rfl (by kernel_rfl) (by kernel_rfl) (by kernel_rfl) (by kernel_rfl) (fun _ _ _ h => h) (Or.inl ⟨rfl, fun w' hw' => ?_⟩) hHeld ?_
         ·(rcases (show q = 0 ∨ q = 1 by omega) with hq | hq; (have ht := ht0 hq; subst hq; subst ht; go_simp; try rfl); (have ht := ht1 hq; subst hq; subst ht; go_simp; try rfl))
         simp only [zt,zs,zz,Act.put,zi,zy,zx]
         refine wpAnyL_take (B := [18, 19, 20, 21]) (i := 17) (v := ?v29) rfl (by kernel_rfl) (by kernel_rfl) (by kernel_rfl) (by kernel_rfl) (fun _ _ _ h => h) (Or.inl ⟨rfl, fun w' hw' => ?h29⟩) hHeld ?r29
         case h29 => (go_simp; try omega); try with_reducible rfl
         simp only [zt,zs,zz,Act.put,zi,zy,zx]
         refine wpAnyL_ready (rs := [18]) (by kernel_rfl) (by simp) ?_
         refine (AllL.cons rfl rfl (fun K hK => ?_) AllL.nil)
         go_simp
         have s9 : ((V.alloc (.cells #[.int .u8 (48 + (q : Int)), .int .u8 (48 + (r : Int))] 5)).alloc (.cells #[.int .i64 1, .string t, .slice none 0 0, .slice none 0 0, .int .i64 0] 29)).cell? ⟨gd, 3, none⟩ = some v4 := ((HA1.out.alloc (by simp) _).cell (p := ⟨gd, 3, none⟩) HPV.out.lt).trans HV4.out
         refine hK.out _ _ s9 (fun hHeld => ?_)
         clear s9
         clear hK K
         try simp only [zt,zs,zz,Act.put,zi,zy,zx]
         refine wpAnyL_ready (rs := [19]) (by kernel_rfl) (by simp) ?_
         refine (AllL.cons rfl rfl (fun K hK => ?_) AllL.nil)
         rw [if_pos (by rfl)]
         refine wp_app (Operand.tmp 75) (Operand.tmp 92) rfl (gd + 1) v4 i xs rfl HO8.out (V.heap.size + 1) 1 rfl [.int .i64 1, .string t, .slice none 0 0, .slice none 0 0, .int .i64 0] rfl (fun j u hu => by rw [show V.heap.size + 1 = (V.alloc (.cells #[.int .u8 (48 + (q : Int)), .int .u8 (48 + (r : Int))] 5)).heap.size by simp, Lib.cell_of_heap (alloc_at (V.alloc (.cells #[.int .u8 (48 + (q : Int)), .int .u8 (48 + (r : Int))] 5)) _)]; simpa using hu) (by simp [Value.oneCell']) hi9 HZ8.out ?_
         intro v' w9 hown9 hg9 hv9
         obtain ⟨so, sn, sc, rfl⟩ := own_form hown9
         obtain ⟨cc, cf, hM⟩ := HN.out _ w9 hown9 hg9 hv9
         have HM := Lib.hid hM
         clear hown9 hg9 hv9 hM HN HO8
         refine hK.out _ _ cc (fun hHeld => ?_)
         clear hK K
         try simp only [zt,zs,zz,Act.put,zi,zy,zx]
         refine wpAnyL_take (B := [21]) (i := 20) (v := ?v31) rfl (by kernel_rfl) (by kernel_rfl) (by kernel_rfl) (by kernel_rfl) (fun _ _ _ h => h) (Or.inl ⟨rfl, fun w' hw' => ?h31⟩) hHeld ?r31
         case h31 => (go_simp; try omega); try with_reducible rfl
         simp only [zt,zs,zz,Act.put,zi,zy,zx]
         refine wpAnyL_ready (rs := [21]) (by kernel_rfl) (by simp) ?_
         refine (AllL.last (S2 := fun _ => True) rfl rfl (fun K hK => ?_) AllL.nil)
         go_simp
         refine hK.out _ _ trivial (fun hHeld => ?_)
         clear hK K
         try simp only [zt,zs,zz,Act.put,zi,zy,zx]
         refine wpAnyH_done (by kernel_rfl) ?_ _
         refine NoPanic.normal ?_
         clear hHeld
         go_wp2_with fail
         go_roundw
         case rel => exact ⟨i + 1, _, hin, by go_num, by rw [ranges, HND.out]; exact HM.out⟩
         case measure => simp [intOf]; omega
        ·skip
         go_simp
         try simp only [hmn]
         refine hK.out _ _ hHeld (fun hHeld => ?_)
         clear hK K
         try simp only [zt,zs,zz,Act.put,zi,zy,zx]
         refine wpAnyL_take (B := [16, 17, 18, 19, 20, 21]) (i := 15) (v := Value.int .i64 (1 - (q : Int))) rfl (by kernel_rfl) (by kernel_rfl) (by kernel_rfl) (by kernel_rfl) (fun _ _ _ h => h) (Or.inl ⟨rfl, fun w' hw' => ?_⟩) hHeld ?_
         ·(go_simp; try rfl)
         simp only [zt,zs,zz,Act.put,zi,zy,zx]
         refine wpAnyL_ready (rs := [11]) (by kernel_rfl) (by simp) ?_
         refine (AllL.cons rfl rfl (fun K hK => ?_) AllL.nil)
         have hcv := HCV.out
         go_simp
         refine hK.out _ _ hHeld (fun hHeld => ?_)
         clear hcv
         clear hK K
         try simp only [zt,zs,zz,Act.put,zi,zy,zx]
         refine wpAnyL_take (B := [17, 18, 19, 20, 21]) (i := 16) (v := Value.string t) rfl (by kernel_rfl) (by kernel_rfl) (by kernel_rfl) (by kernel_rfl) (fun _ _ _ h => h) (Or.inl ⟨rfl, fun w' hw' => ?_⟩) hHeld ?_
         ·(rcases (show q = 0 ∨ q = 1 by omega) with hq | hq; (have ht := ht0 hq; subst hq; subst ht; go_simp; try rfl); (have ht := ht1 hq; subst hq; subst ht; go_simp; try rfl))
         simp only [zt,zs,zz,Act.put,zi,zy,zx]
         refine wpAnyL_take (B := [18, 19, 20, 21]) (i := 17) (v := ?v37) rfl (by kernel_rfl) (by kernel_rfl) (by kernel_rfl) (by kernel_rfl) (fun _ _ _ h => h) (Or.inl ⟨rfl, fun w' hw' => ?h37⟩) hHeld ?r37
         case h37 => (go_simp; try omega); try with_reducible rfl
         simp only [zt,zs,zz,Act.put,zi,zy,zx]
         refine wpAnyL_ready (rs := [18]) (by kernel_rfl) (by simp) ?_
         refine (AllL.cons rfl rfl (fun K hK => ?_) AllL.nil)
         go_simp
         have s9 : ((V.alloc (.cells #[.int .u8 (48 + (q : Int)), .int .u8 (48 + (r : Int))] 5)).alloc (.cells #[.int .i64 1, .string t, .slice none 0 0, .slice none 0 0, .int .i64 0] 29)).cell? ⟨gd, 3, none⟩ = some v4 := ((HA1.out.alloc (by simp) _).cell (p := ⟨gd, 3, none⟩) HPV.out.lt).trans HV4.out
         refine hK.out _ _ s9 (fun hHeld => ?_)
         clear s9
         clear hK K
         try simp only [zt,zs,zz,Act.put,zi,zy,zx]
         refine wpAnyL_ready (rs := [19]) (by kernel_rfl) (by simp) ?_
         refine (AllL.cons rfl rfl (fun K hK => ?_) AllL.nil)
         rw [if_pos (by rfl)]
         refine wp_app (Operand.tmp 75) (Operand.tmp 92) rfl (gd + 1) v4 i xs rfl HO8.out (V.heap.size + 1) 1 rfl [.int .i64 1, .string t, .slice none 0 0, .slice none 0 0, .int .i64 0] rfl (fun j u hu => by rw [show V.heap.size + 1 = (V.alloc (.cells #[.int .u8 (48 + (q : Int)), .int .u8 (48 + (r : Int))] 5)).heap.size by simp, Lib.cell_of_heap (alloc_at (V.alloc (.cells #[.int .u8 (48 + (q : Int)), .int .u8 (48 + (r : Int))] 5)) _)]; simpa using hu) (by simp [Value.oneCell']) hi9 HZ8.out ?_
         intro v' w9 hown9 hg9 hv9
         obtain ⟨so, sn, sc, rfl⟩ := own_form hown9
         obtain ⟨cc, cf, hM⟩ := HN.out _ w9 hown9 hg9 hv9
         have HM := Lib.hid hM
         clear hown9 hg9 hv9 hM HN HO8
         refine hK.out _ _ cc (fun hHeld => ?_)
         clear hK K
         try simp only [zt,zs,zz,Act.put,zi,zy,zx]
         refine wpAnyL_take (B := [21]) (i := 20) (v := ?v39) rfl (by kernel_rfl) (by kernel_rfl) (by kernel_rfl) (by kernel_rfl) (fun _ _ _ h => h) (Or.inl ⟨rfl, fun w' hw' => ?h39⟩) hHeld ?r39
         case h39 => (go_simp; try omega); try with_reducible rfl
         simp only [zt,zs,zz,Act.put,zi,zy,zx]
         refine wpAnyL_ready (rs := [21]) (by kernel_rfl) (by simp) ?_
         refine (AllL.last (S2 := fun _ => True) rfl rfl (fun K hK => ?_) AllL.nil)
         go_simp
         refine hK.out _ _ trivial (fun hHeld => ?_)
         clear hK K
         try simp only [zt,zs,zz,Act.put,zi,zy,zx]
         refine wpAnyH_done (by kernel_rfl) ?_ _
         refine NoPanic.normal ?_
         clear hHeld
         go_wp2_with fail
         go_roundw
         case rel => exact ⟨i + 1, _, hin, by go_num, by rw [ranges, HND.out]; exact HM.out⟩
         case measure => simp [intOf]; omega
       ·skip
        go_simp
        try simp only [hmn]
        refine hK.out _ _ hHeld (fun hHeld => ?_)
        clear hK K
        try simp only [zt,zs,zz,Act.put,zi,zy,zx]
        refine wpAnyL_take (B := [16, 17, 18, 19, 20, 21]) (i := 15) (v := Value.int .i64 (1 - (q : Int))) rfl (by kernel_rfl) (by kernel_rfl) (by kernel_rfl) (by kernel_rfl) (fun _ _ _ h => h) (Or.inl ⟨rfl, fun w' hw' => ?_⟩) hHeld ?_
        ·(go_simp; try rfl)
        simp only [zt,zs,zz,Act.put,zi,zy,zx]
        refine wpAnyL_ready (rs := [10]) (by kernel_rfl) (by simp) ?_
        refine (AllL.cons rfl rfl (fun K hK => ?_) AllL.nil)
        go_simp
        have b9 : Below V.heap.size V (V.alloc (.cells #[.int .u8 (48 + (q : Int)), .int .u8 (48 + (r : Int))] 5)) := (Below.refl _ _).alloc (Nat.le_refl _) _
        have s9 := (b9.cell (p := ⟨gd, 3, none⟩) HPV.out.lt).trans hHeld
        refine hK.out _ _ s9 (fun hHeld => ?_)
        clear s9
        clear hK K
        try simp only [zt,zs,zz,Act.put,zi,zy,zx]
        refine wpAnyL_ready (rs := [11]) (by kernel_rfl) (by simp) ?_
        refine (AllL.cons rfl rfl (fun K hK => ?_) AllL.nil)
        have hcv := HCV.out
        go_simp
        refine hK.out _ _ hHeld (fun hHeld => ?_)
        clear hcv
        clear hK K
        try simp only [zt,zs,zz,Act.put,zi,zy,zx]
        refine wpAnyL_take (B := [17, 18, 19, 20, 21]) (i := 16) (v := Value.string t) rfl (by kernel_rfl) (by kernel_rfl) (by kernel_rfl) (by kernel_rfl) (fun _ _ _ h => h) (Or.inl ⟨rfl, fun w' hw' => ?_⟩) hHeld ?_
        ·(rcases (show q = 0 ∨ q = 1 by omega) with hq | hq; (have ht := ht0 hq; subst hq; subst ht; go_simp; try rfl); (have ht := ht1 hq; subst hq; subst ht; go_simp; try rfl))
        simp only [zt,zs,zz,Act.put,zi,zy,zx]
        refine wpAnyL_take (B := [18, 19, 20, 21]) (i := 17) (v := ?v45) rfl (by kernel_rfl) (by kernel_rfl) (by kernel_rfl) (by kernel_rfl) (fun _ _ _ h => h) (Or.inl ⟨rfl, fun w' hw' => ?h45⟩) hHeld ?r45
        case h45 => (go_simp; try omega); try with_reducible rfl
        simp only [zt,zs,zz,Act.put,zi,zy,zx]
        refine wpAnyL_ready (rs := [18]) (by kernel_rfl) (by simp) ?_
        refine (AllL.cons rfl rfl (fun K hK => ?_) AllL.nil)
        go_simp
        have s9 : ((V.alloc (.cells #[.int .u8 (48 + (q : Int)), .int .u8 (48 + (r : Int))] 5)).alloc (.cells #[.int .i64 1, .string t, .slice none 0 0, .slice none 0 0, .int .i64 0] 29)).cell? ⟨gd, 3, none⟩ = some v4 := ((HA1.out.alloc (by simp) _).cell (p := ⟨gd, 3, none⟩) HPV.out.lt).trans HV4.out
        refine hK.out _ _ s9 (fun hHeld => ?_)
        clear s9
        clear hK K
        try simp only [zt,zs,zz,Act.put,zi,zy,zx]
        refine wpAnyL_ready (rs := [19]) (by kernel_rfl) (by simp) ?_
        refine (AllL.cons rfl rfl (fun K hK => ?_) AllL.nil)
        rw [if_pos (by rfl)]
        refine wp_app (Operand.tmp 75) (Operand.tmp 92) rfl (gd + 1) v4 i xs rfl HO8.out (V.heap.size + 1) 1 rfl [.int .i64 1, .string t, .slice none 0 0, .slice none 0 0, .int .i64 0] rfl (fun j u hu => by rw [show V.heap.size + 1 = (V.alloc (.cells #[.int .u8 (48 + (q : Int)), .int .u8 (48 + (r : Int))] 5)).heap.size by simp, Lib.cell_of_heap (alloc_at (V.alloc (.cells #[.int .u8 (48 + (q : Int)), .int .u8 (48 + (r : Int))] 5)) _)]; simpa using hu) (by simp [Value.oneCell']) hi9 HZ8.out ?_
        intro v' w9 hown9 hg9 hv9
        obtain ⟨so, sn, sc, rfl⟩ := own_form hown9
        obtain ⟨cc, cf, hM⟩ := HN.out _ w9 hown9 hg9 hv9
        have HM := Lib.hid hM
        clear hown9 hg9 hv9 hM HN HO8
        refine hK.out _ _ cc (fun hHeld => ?_)
        clear hK K
        try simp only [zt,zs,zz,Act.put,zi,zy,zx]
        refine wpAnyL_take (B := [21]) (i := 20) (v := ?v47) rfl (by kernel_rfl) (by kernel_rfl) (by kernel_rfl) (by kernel_rfl) (fun _ _ _ h => h) (Or.inl ⟨rfl, fun w' hw' => ?h47⟩) hHeld ?r47
        case h47 => (go_simp; try omega); try with_reducible rfl
        simp only [zt,zs,zz,Act.put,zi,zy,zx]
        refine wpAnyL_ready (rs := [21]) (by kernel_rfl) (by simp) ?_
        refine (AllL.last (S2 := fun _ => True) rfl rfl (fun K hK => ?_) AllL.nil)
        go_simp
        refine hK.out _ _ trivial (fun hHeld => ?_)
        clear hK K
        try simp only [zt,zs,zz,Act.put,zi,zy,zx]
        refine wpAnyH_done (by kernel_rfl) ?_ _
        refine NoPanic.normal ?_
        clear hHeld
        go_wp2_with fail
        go_roundw
        case rel => exact ⟨i + 1, _, hin, by go_num, by rw [ranges, HND.out]; exact HM.out⟩
        case measure => simp [intOf]; omega
      ·have q1 : decide ((i : Int) < (k : Int)) = false := decide_eq_false (by omega)
       have hik : i = k := by omega
       rw [hik, List.nil_append] at HP
       have HDD : Hid (Pd W2 gd v4 (cDs k) wr) := HP
       have hb2 : Below W2.heap.size W2 wr := by rw [← HGD.out]; exact HDD.out.b
       have hlp := LAt.low (HPP.out.o.below hb2).at
       obtain ⟨o5, c5, rfl⟩ := hlp.form
       have HAP : Hid (Dt.At (fun g => g < wr.heap.size) wr (cP a b) #[.int .i64 4, .string ⟨#[]⟩, .slice none 0 0, .slice o5 (cPs a b).length c5, .int .i64 0]) := list_at hlp
       have hld := LAt.low HDD.out.o.at
       obtain ⟨o6, c6, rfl⟩ := hld.form
       have HLD := Lib.hid hld
       have HAD : Hid (Dt.At (fun g => g < wr.heap.size) wr (cD k) #[.int .i64 4, .string ⟨#[]⟩, .slice none 0 0, .slice o6 (cDs k).length c6, .int .i64 0]) := list_at hld
       have HX1 : Hid (wr.heap[gp]? = some (.cells #[.int .i64 4, .string ⟨#[]⟩, .slice none 0 0, .slice o5 (cPs a b).length c5, .int .i64 0] 29 (0, 0))) := (hb2.block gp (by rw [← HGD.out]; exact hgpw)).trans HPP.out.c
       have HX2 : Hid (wr.heap[gd]? = some (.cells #[.int .i64 4, .string ⟨#[]⟩, .slice none 0 0, .slice o6 (cDs k).length c6, .int .i64 0] 29 (0, 0))) := HDD.out.c
       obtain ⟨ck, wfp, ptp, szp⟩ := rcC_at a b ha2 hbb
       have szd := cD_at k hk2
       have F24 := Lib.hid (matchU_any [] (.slice none 0 0) (cP a b) (cD k) _ _ wr (.inl ⟨rfl, rfl⟩) (by decide) (by simp) HAP.out HAD.out wfp ptp (by omega) (by omega))
       have hO := rcO_at a b k ha2 hbb hk2
       have hS := rcS_at a b k ha2 hbb hk2
       unfold rcS at hS
       unfold rcO at hO
       have HCK := Lib.hid (And.intro ck (And.intro wfp szp))
       replace BB : Hid (Below w.heap.size w wr) := BB.out.trans ((HPP.out.b.trans (hb2.mono (Nat.le_of_lt (by rw [← HGD.out]; exact hgpw)))).mono (by rw [HGP.out]; exact BB.out.size))
       generalize mRf [] 8000 (cP a b) (cD k) = res at F24 hO hS
       have hgp9 : gp < wr.heap.size := Array.getElem?_eq_some_iff.1 HX1.out |>.1
       have hgd9 : gd < wr.heap.size := Array.getElem?_eq_some_iff.1 HX2.out |>.1
       clear hld hlp hb2 ck wfp ptp szp szd HP HPP HDD hik hc
       go_upto_region 20 with (first | (refine wpList_load_row rfl 29 _ rfl gp rfl 29 #[.int .i64 4, .string ⟨#[]⟩, .slice none 0 0, .slice o5 (cPs a b).length c5, .int .i64 0] (0, 0) _ HX1.out Try.underlying29 rfl info40 ?_) | (refine wpList_load_row rfl 29 _ rfl gd rfl 29 #[.int .i64 4, .string ⟨#[]⟩, .slice none 0 0, .slice o6 (cDs k).length c6, .int .i64 0] (0, 0) _ HX2.out Try.underlying29 rfl info40 ?_) | (go_at_call 24; refine F24.out.mono ?_; rintro e w10 hr10; obtain ⟨v10, rfl, hrow10, hb10⟩ := hr10.rows; have HR10 := Lib.hid hrow10; have HB10 := Lib.hid hb10; clear hr10 hrow10 hb10 F24))
       have hwab : IntKind.i64.wrap ((a : Int) + (b : Int)) = (a : Int) + (b : Int) := IntWalk.i64_in _ (by omega)
       cases res with
       | none =>
        have hlt : k < a + b := of_decide_eq_true hO
        have q20 : decide ((k : Int) < (a : Int) + (b : Int)) = true := decide_eq_true (by omega)
        obtain ⟨ao10, c10, rfl⟩ := HR10.out.form
        go_upto_region 21 with fail
        obtain ⟨ck, wfp, szp⟩ := HCK.out
        obtain ⟨O, hOO⟩ : ∃ O, O = oneOf ⟨#[49]⟩ := ⟨_, rfl⟩
        have F17 := Lib.hid (fun W => one_any ⟨#[49]⟩ W (by decide))
        have ow := one_wf
        rw [← hOO] at F17 ck ow
        have F20 : Hid (∀ W, Below w10.heap.size w10 W → ∀ cs, Dt.At (fun g => g < W.heap.size) W O cs → Calls Try.prog 20 #[.slice none 0 0, .agg #[.int .i64 4, .string ⟨#[]⟩, .slice none 0 0, .slice o5 (cPs a b).length c5, .int .i64 0], .agg cs] W (RetInt9 0 W)) := by
         intro W hbW cs hcs
         have h := check_any [] (.slice none 0 0) (cP a b) O _ _ W (.inl ⟨rfl, rfl⟩) (by decide) (by simp) (Dt.At.low _ _ (Dt.At.keeps (Keeps.of_below (HB10.out.trans (hbW.mono HB10.out.size))) _ _ HAP.out)) hcs wfp ow.1 (by omega) ow.2
         rw [ck] at h
         exact h
        have HC : Hid (∀ W, Below w10.heap.size w10 W → W.cell? ⟨gp, 0, none⟩ = some (.int .i64 4) ∧ W.cell? ⟨gp, 1, none⟩ = some (.string ⟨#[]⟩) ∧ W.cell? ⟨gp, 2, none⟩ = some (.slice none 0 0) ∧ W.cell? ⟨gp, 3, none⟩ = some (.slice o5 (cPs a b).length c5) ∧ W.cell? ⟨gp, 4, none⟩ = some (.int .i64 0)) := by
         intro W hbW
         have hh : W.heap[gp]? = some (.cells #[.int .i64 4, .string ⟨#[]⟩, .slice none 0 0, .slice o5 (cPs a b).length c5, .int .i64 0] 29 (0, 0)) := ((HB10.out.trans (hbW.mono HB10.out.size)).block gp hgp9).trans HX1.out
         refine ⟨?_, ?_, ?_, ?_, ?_⟩ <;> (rw [Lib.cell_of_heap hh]; rfl)
        replace BB := Lib.hid (BB.out.trans (HB10.out.mono BB.out.size))
        clear ck wfp szp ow hOO HCK
        refine wp_region_noPanic ?_
        refine wp_region_held_drew (S := Below w10.heap.size w10) (by kernel_rfl) ((Below.refl _ _).drew) (fun hHeld => ?_)
        generalize w10.drew = V at hHeld ⊢
        refine qtk (i := 0) (v := ?v48) rfl rfl (fun w' hw' => ?h48) hHeld ?r48
        case h48 => (go_simp; try omega); try with_reducible rfl
        simp only [zt,zs,zz,Act.put,zi,zy,zx]
        refine qtk (i := 1) (v := ?v49) rfl rfl (fun w' hw' => ?h49) hHeld ?r49
        case h49 => (go_simp; try omega); try with_reducible rfl
        simp only [zt,zs,zz,Act.put,zi,zy,zx]
        refine qtk (i := 2) (v := ?v50) rfl rfl (fun w' hw' => ?h50) hHeld ?r50
        case h50 => (go_simp; try omega); try with_reducible rfl
        simp only [zt,zs,zz,Act.put,zi,zy,zx]
        refine qtk (i := 3) (v := ?v51) rfl rfl (fun w' hw' => ?h51) hHeld ?r51
        case h51 => (go_simp; try omega); try with_reducible rfl
        simp only [zt,zs,zz,Act.put,zi,zy,zx]
        refine qtk (i := 4) (v := ?v52) rfl rfl (fun w' hw' => ?h52) hHeld ?r52
        case h52 => (go_simp; try omega); try with_reducible rfl
        simp only [zt,zs,zz,Act.put,zi,zy,zx]
        refine qtk (i := 5) (v := ?v53) rfl rfl (fun w' hw' => ?h53) hHeld ?r53
        case h53 => (go_simp; try omega); try with_reducible rfl
        simp only [zt,zs,zz,Act.put,zi,zy,zx]
        refine qtk (i := 6) (v := ?v54) rfl rfl (fun w' hw' => ?h54) hHeld ?r54
        case h54 => (go_simp; try omega); try with_reducible rfl
        simp only [zt,zs,zz,Act.put,zi,zy,zx]
        refine qtk (i := 7) (v := ?v55) rfl rfl (fun w' hw' => ?h55) hHeld ?r55
        case h55 => (go_simp; try omega); try with_reducible rfl
        simp only [zt,zs,zz,Act.put,zi,zy,zx]
        refine qtk (i := 8) (v := ?v56) rfl rfl (fun w' hw' => ?h56) hHeld ?r56
        case h56 => (obtain ⟨a0, a1, a2, a3, a4⟩ := HC.out w' hw'; go_simp); try with_reducible rfl
        simp only [zt,zs,zz,Act.put,zi,zy,zx]
        refine wpAnyH_ready (rs := [9]) (by kernel_rfl) (by simp) ?_
        refine (AllReadyH.cons rfl (fun K hK => ?_) AllReadyH.nil)
        go_simp
        refine (F17.out V).mono ?_
        rintro e w17 ⟨cs17, rfl, hat17, hb17⟩
        have H17 := Lib.hid (Dt.At.low _ _ hat17)
        have hHeld := hHeld.trans (hb17.mono hHeld.size)
        have HV := Lib.hid hHeld
        clear hat17 hb17
        refine hK.out _ _ hHeld (fun hHeld => ?_)
        clear hK K
        try simp only [zt,zs,zz,Act.put,zi,zy,zx]
        refine wpAnyH_ready (rs := [10]) (by kernel_rfl) (by simp) ?_
        refine (AllReadyH.cons rfl (fun K hK => ?_) AllReadyH.nil)
        go_simp
        refine (F20.out w17 HV.out _ H17.out).mono ?_
        rintro e w20 ⟨rfl, hb20⟩
        have hHeld := hHeld.trans (hb20.mono hHeld.size)
        clear hb20
        refine hK.out _ _ hHeld (fun hHeld => ?_)
        clear hK K
        try simp only [zt,zs,zz,Act.put,zi,zy,zx]
        refine qtk (i := 11) (v := ?v57) rfl rfl (fun w' hw' => ?h57) hHeld ?r57
        case h57 => (go_simp; try omega); try with_reducible rfl
        simp only [zt,zs,zz,Act.put,zi,zy,zx]
        refine qtk (i := 12) (v := ?v58) rfl rfl (fun w' hw' => ?h58) hHeld ?r58
        case h58 => (go_simp; try omega); try with_reducible rfl
        simp only [zt,zs,zz,Act.put,zi,zy,zx]
        refine qtk (i := 13) (v := ?v59) rfl rfl (fun w' hw' => ?h59) hHeld ?r59
        case h59 => (go_simp; try omega); try with_reducible rfl
        simp only [zt,zs,zz,Act.put,zi,zy,zx]
        refine wpAnyH_done (by kernel_rfl) ?_ _
        refine NoPanic.normal ?_
        have hEnd := Lib.hid hHeld
        clear hHeld
        replace BB := Lib.hid (BB.out.trans (hEnd.out.mono BB.out.size))
        go_wp2_with fail
        go_ret
        exact ⟨rfl, BB.out⟩
       | some r =>
        simp only [Bool.and_eq_true, Bool.not_eq_true', decide_eq_false_iff_not] at hO
        obtain ⟨hlt, hrc⟩ := hO
        have q20 : decide ((k : Int) < (a : Int) + (b : Int)) = false := decide_eq_false (by omega)
        obtain ⟨B, hL, hrB, hdeep, hrows, hsame⟩ := rcR_is hrc (by omega) hS
        clear hrc
        rw [Option.getD_some] at HR10
        obtain ⟨ao10, c10, rfl⟩ := HR10.out.form
        have har : a < r.length := by omega
        have hBr := hrB har
        obtain ⟨gx, xm, xl, xo, xc, rfl, hxc, ⟨cx, hcx⟩, -, x5, -, x11, -⟩ := HR10.out.get a har
        obtain ⟨gx2, xo2, xc2, F2, e1, y11, hin2⟩ := HR10.out.inner a har
        injection e1 with e1; injection e1 with e1 _; subst e1
        rw [x11] at y11
        injection y11 with y11; injection y11 with e2 e3 e4
        subst e2 e4
        rw [hBr] at x5 x11 hin2
        rw [hdeep] at x5
        have HIN := Lib.hid hin2
        have hgx := World.block_lt_of_cell? w10 _ x11
        obtain ⟨m, hm⟩ : ∃ m, m = k - a - b := ⟨_, rfl⟩
        rw [hrows, ← hm] at x11
        have hmk : (m : Int) = (k : Int) - (a : Int) - (b : Int) := by omega
        rw [hL] at hxc ⊢
        have qA : (((a + b + 1 : Nat) : Int) != (a : Int) + (b : Int) + 1) = false := by simp
        have hw1 : IntKind.i64.wrap ((a : Int) + (b : Int) + 1) = (a : Int) + (b : Int) + 1 := IntWalk.i64_in _ (by omega)
        have hw2 : IntKind.i64.wrap ((k : Int) - (a : Int)) = (k : Int) - (a : Int) := IntWalk.i64_in _ (by omega)
        have hw3 : IntKind.i64.wrap ((k : Int) - (a : Int) - (b : Int)) = (m : Int) := by rw [IntWalk.i64_in _ (by omega)]; omega
        have qC : ((m : Int) != (m : Int)) = false := by simp
        have hal : a < a + b + 1 := by omega
        clear hmk
        go_upto_region 22 with fail
        go_upto_region 24 with fail
        have hlk : (cDs k).length = k := by simp [cDs]
        have hHX : w10.heap[gd]? = _ := (HB10.out.block gd hgd9).trans HX2.out
        have hld := LAt.keeps HLD.out (Keeps.of_below HB10.out)
        rw [hlk] at hHX hld
        have HXD := Lib.hid hHX
        have HLQ := Lib.hid hld
        have hX11 : Hid (w10.cell? ⟨gx, a * 12 + 11, none⟩ = some (.slice xo m xc)) := x11
        have hgdw : gd < w10.heap.size := Array.getElem?_eq_some_iff.1 hHX |>.1
        have HHS := Lib.hid hsame
        have hmr : B.rows.length = m := by omega
        have hak : m + a ≤ k := by omega
        have H0 : Hid (NmI w10 m (.int .i64 0) w10) := ⟨0, Nat.zero_le _, rfl, Below.refl _ _⟩
        replace BB := Lib.hid (BB.out.trans (HB10.out.mono BB.out.size))
        clear hHX hld x5 x11 hin2 hsame qA qC hw1 hw2 hw3 hcx hxc hBr hS hdeep
        go_wp2_with fail
        go_loopw [17] (fun iv wr => NmI w10 m iv wr) (fun iv _ => m - (intOf iv).toNat)
        case atStart => exact H0.out
        case round =>
         clear H0
         obtain ⟨j, hj, rfl, hbel⟩ := hrel
         have HB := Lib.hid hbel
         clear hbel
         have x11 : wr.cell? ⟨gx, a * 12 + 11, none⟩ = some (.slice xo m xc) := (HB.out.cell (p := ⟨gx, a * 12 + 11, none⟩) hgx).trans hX11.out
         by_cases hjm : j < m
         ·have q1 : decide ((j : Int) < (m : Int)) = true := decide_eq_true (by omega)
          have hjr : j < B.rows.length := by omega
          obtain ⟨e, he⟩ : ∃ e, e = a + j := ⟨_, rfl⟩
          have hek : e < k := by omega
          have hel : a + j < (cDs k).length := by omega
          obtain ⟨hsm, hsz⟩ := HHS.out j (by omega) hjr hel
          obtain ⟨gz, zm, zl, zo, zc, rfl, -, -, -, -, ⟨z6, z7, z8, z9, z10⟩, -, haz⟩ := (HIN.out.below HB.out).get j hjr
          obtain ⟨gq, oq, kq, tq, mq, lq, pq, rfl, -, ⟨cq, fz, hq⟩, hatq, y0, y1, y2, y3, y4, -, -⟩ := (LAt.keeps HLQ.out (Keeps.of_below HB.out)).get (a + j) hel
          have F34 := Lib.hid (fun (W : World) (hb : Below wr.heap.size wr W) => refsame_any 1000000000 (Nat.le_refl _) B.rows[j].dat (cDs k)[a + j] (by omega) _ _ _ _ W (Dt.At.keeps (Keeps.of_below hb) _ _ haz) (Dt.At.keeps (Keeps.of_below hb) _ _ hatq))
          rw [hsm] at F34
          rw [← he] at y0 y1 y2 y3 y4
          generalize B.rows[j].dat = dd at z6 z7 z10 F34 haz hsz hsm
          have hgxw : gx < wr.heap.size := World.block_lt_of_cell? wr _ x11
          have hgzw : gz < wr.heap.size := World.block_lt_of_cell? wr _ z6
          have hgqw : gq < wr.heap.size := World.block_lt_of_cell? wr _ y0
          have hgdr : gd < wr.heap.size := Nat.lt_of_lt_of_le hgdw HB.out.size
          have d3 : wr.cell? ⟨gd, 3, none⟩ = some (.slice (some ⟨gq, oq, none⟩) k c6) := by
           rw [Lib.cell_of_heap ((HB.out.block gd hgdw).trans HXD.out)]; rfl
          have hw4 : IntKind.i64.wrap ((a : Int) + (j : Int)) = (e : Int) := by rw [IntWalk.i64_in _ (by omega)]; omega
          have HC : Hid (∀ W, Below wr.heap.size wr W → W.cell? ⟨gx, a * 12 + 11, none⟩ = some (.slice (some ⟨gz, 0, none⟩) m xc) ∧ W.cell? ⟨gd, 3, none⟩ = some (.slice (some ⟨gq, oq, none⟩) k c6) ∧
            W.cell? ⟨gz, j * 12 + 6, none⟩ = some (.int .i64 dd.kind) ∧ W.cell? ⟨gz, j * 12 + 7, none⟩ = some (.string dd.text) ∧ W.cell? ⟨gz, j * 12 + 8, none⟩ = some zm ∧ W.cell? ⟨gz, j * 12 + 9, none⟩ = some zl ∧ W.cell? ⟨gz, j * 12 + 10, none⟩ = some (.int .i64 dd.place) ∧
            W.cell? ⟨gq, oq + e * 5, none⟩ = some (.int .i64 kq) ∧ W.cell? ⟨gq, oq + e * 5 + 1, none⟩ = some (.string tq) ∧ W.cell? ⟨gq, oq + e * 5 + 2, none⟩ = some mq ∧ W.cell? ⟨gq, oq + e * 5 + 3, none⟩ = some lq ∧ W.cell? ⟨gq, oq + e * 5 + 4, none⟩ = some (.int .i64 pq)) := by
           intro W hb
           exact ⟨(hb.cell (p := ⟨gx, _, none⟩) hgxw).trans x11, (hb.cell (p := ⟨gd, _, none⟩) hgdr).trans d3, (hb.cell (p := ⟨gz, _, none⟩) hgzw).trans z6, (hb.cell (p := ⟨gz, _, none⟩) hgzw).trans z7, (hb.cell (p := ⟨gz, _, none⟩) hgzw).trans z8, (hb.cell (p := ⟨gz, _, none⟩) hgzw).trans z9, (hb.cell (p := ⟨gz, _, none⟩) hgzw).trans z10,
            (hb.cell (p := ⟨gq, _, none⟩) hgqw).trans y0, (hb.cell (p := ⟨gq, _, none⟩) hgqw).trans y1, (hb.cell (p := ⟨gq, _, none⟩) hgqw).trans y2, (hb.cell (p := ⟨gq, _, none⟩) hgqw).trans y3, (hb.cell (p := ⟨gq, _, none⟩) hgqw).trans y4⟩
          clear z6 z7 z8 z9 z10 y0 y1 y2 y3 y4 d3 haz hatq hq hgxw hgzw hgqw hgdr hsm hsz he hel
          go_upto_region 27 with fail
          refine wp_region_noPanic ?_
          refine wp_region_held_drew (S := Below wr.heap.size wr) (by kernel_rfl) ((Below.refl _ _).drew) (fun hHeld => ?_)
          generalize wr.drew = V at hHeld ⊢
          refine qtk (i := 0) (v := ?v60) rfl rfl (fun w' hw' => ?h60) hHeld ?r60
          case h60 => (go_simp; try omega); try with_reducible rfl
          simp only [zt,zs,zz,Act.put,zi,zy,zx]
          refine qtk (i := 1) (v := ?v61) rfl rfl (fun w' hw' => ?h61) hHeld ?r61
          case h61 => (go_simp; try omega); try with_reducible rfl
          simp only [zt,zs,zz,Act.put,zi,zy,zx]
          refine qtk (i := 2) (v := Value.pointer (some ⟨gx, a * 12, none⟩)) rfl rfl (fun w' hw' => ?_) hHeld ?_
          ·(go_simp; try omega)
          simp only [zt,zs,zz,Act.put,zi,zy,zx]
          refine qtk (i := 3) (v := ?v63) rfl rfl (fun w' hw' => ?h63) hHeld ?r63
          case h63 => (go_simp; try omega); try with_reducible rfl
          simp only [zt,zs,zz,Act.put,zi,zy,zx]
          refine qtk (i := 4) (v := ?v64) rfl rfl (fun w' hw' => ?h64) hHeld ?r64
          case h64 => (obtain ⟨x11, d3, z6, z7, z8, z9, z10, y0, y1, y2, y3, y4⟩ := HC.out w' hw'; go_simp); try with_reducible rfl
          simp only [zt,zs,zz,Act.put,zi,zy,zx]
          refine qtk (i := 5) (v := ?v65) rfl rfl (fun w' hw' => ?h65) hHeld ?r65
          case h65 => (go_simp; try omega); try with_reducible rfl
          simp only [zt,zs,zz,Act.put,zi,zy,zx]
          refine qtk (i := 6) (v := Value.pointer (some ⟨gz, j * 12, none⟩)) rfl rfl (fun w' hw' => ?_) hHeld ?_
          ·(go_simp; try omega)
          simp only [zt,zs,zz,Act.put,zi,zy,zx]
          refine qtk (i := 7) (v := ?v67) rfl rfl (fun w' hw' => ?h67) hHeld ?r67
          case h67 => (go_simp; try omega); try with_reducible rfl
          simp only [zt,zs,zz,Act.put,zi,zy,zx]
          refine qtk (i := 8) (v := ?v68) rfl rfl (fun w' hw' => ?h68) hHeld ?r68
          case h68 => (obtain ⟨x11, d3, z6, z7, z8, z9, z10, y0, y1, y2, y3, y4⟩ := HC.out w' hw'; go_simp); try with_reducible rfl
          simp only [zt,zs,zz,Act.put,zi,zy,zx]
          refine qtk (i := 9) (v := ?v69) rfl rfl (fun w' hw' => ?h69) hHeld ?r69
          case h69 => (go_simp; try omega); try with_reducible rfl
          simp only [zt,zs,zz,Act.put,zi,zy,zx]
          refine qtk (i := 10) (v := ?v70) rfl rfl (fun w' hw' => ?h70) hHeld ?r70
          case h70 => (obtain ⟨x11, d3, z6, z7, z8, z9, z10, y0, y1, y2, y3, y4⟩ := HC.out w' hw'; go_simp); try with_reducible rfl
          simp only [zt,zs,zz,Act.put,zi,zy,zx]
          refine qtk (i := 11) (v := ?v71) rfl rfl (fun w' hw' => ?h71) hHeld ?r71
          case h71 => (go_simp; try omega); try with_reducible rfl
          simp only [zt,zs,zz,Act.put,zi,zy,zx]
          refine qtk (i := 12) (v := ?v72) rfl rfl (fun w' hw' => ?h72) hHeld ?r72
          case h72 => (go_simp; try omega); try with_reducible rfl
          simp only [zt,zs,zz,Act.put,zi,zy,zx]
          refine qtk (i := 13) (v := Value.int .i64 (e : Int)) rfl rfl (fun w' hw' => ?_) hHeld ?_
          ·(go_simp; try rfl)
          simp only [zt,zs,zz,Act.put,zi,zy,zx]
          refine qtk (i := 14) (v := Value.pointer (some ⟨gq, oq + e * 5, none⟩)) rfl rfl (fun w' hw' => ?_) hHeld ?_
          ·(go_simp; try omega)
          simp only [zt,zs,zz,Act.put,zi,zy,zx]
          refine qtk (i := 15) (v := ?v75) rfl rfl (fun w' hw' => ?h75) hHeld ?r75
          case h75 => (obtain ⟨x11, d3, z6, z7, z8, z9, z10, y0, y1, y2, y3, y4⟩ := HC.out w' hw'; go_simp); try with_reducible rfl
          simp only [zt,zs,zz,Act.put,zi,zy,zx]
          refine wpAnyH_ready (rs := [16]) (by kernel_rfl) (by simp) ?_
          refine (AllReadyH.cons rfl (fun K hK => ?_) AllReadyH.nil)
          go_simp
          refine (F34.out V hHeld).mono ?_
          rintro e w24 ⟨rfl, hb24⟩
          have hHeld := hHeld.trans (hb24.mono hHeld.size)
          clear hb24
          refine hK.out _ _ hHeld (fun hHeld => ?_)
          clear hK K
          try simp only [zt,zs,zz,Act.put,zi,zy,zx]
          refine qtk (i := 17) (v := ?v76) rfl rfl (fun w' hw' => ?h76) hHeld ?r76
          case h76 => (go_simp; try omega); try with_reducible rfl
          simp only [zt,zs,zz,Act.put,zi,zy,zx]
          refine wpAnyH_done (by kernel_rfl) ?_ _
          refine NoPanic.normal ?_
          have hEnd := Lib.hid hHeld
          clear hHeld
          have HREL : Hid (NmI w10 m (.int .i64 ((j : Int) + 1)) w24) := ⟨j + 1, by omega, by go_num, HB.out.trans (hEnd.out.mono HB.out.size)⟩
          clear hEnd
          go_wp2_with fail
          go_roundw
          case rel => exact HREL.out
          case measure => simp [intOf]; omega
         ·have q1 : decide ((j : Int) < (m : Int)) = false := decide_eq_false (by omega)
          replace BB := Lib.hid (BB.out.trans (HB.out.mono BB.out.size))
          go_wp2_with fail
          go_ret
          exact ⟨rfl, BB.out⟩
end Go.Proofs.Ytecljchifebljaa
