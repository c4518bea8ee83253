/- The contract of part, by Make's. -/
import Derived.Test.YtmcgocbkjdacaaaDoorM1
namespace Go.Proofs.YtmcgocbkjdacaaaDoor
open Go.RowKit Go.BigM
set_option linter.unusedVariables false
set_option linter.unusedSimpArgs false
/-- What part and Make hand back: a made term, at most so many names, so large. -/
def RetMade (sc : List ByteArray) (g m c s : Nat) (w : World) (e : Ending) (w' : World) : Prop :=
  ∃ cs t m', e = .returned (.agg cs) ∧ Et.At (fun x => w.heap.size ≤ x) w' t cs ∧ Made sc m m' t ∧ t.size ≤ s ∧ m' ≤ m + c ∧ Mk w' g m' ∧ But w.heap.size g w w'
structure Pre (w0 w : World) (g m : Nat) (sc : List ByteArray) (scv : Value) : Prop where
  below : Below w0.heap.size w0 w
  maker : w0.heap.size ≤ g
  cnt : Mk w g m
  scope : NAt (fun x => x ≠ g) w scv sc
  good : Good sc
  few : sc.length ≤ m + 10
theorem within_some2 (a : Int) (n : Nat) (ha : I64 a) (h1 : 1 ≤ n) (h2 : n ≤ 60000) (w : World) : Calls Tryd.prog 46 #[.int .i64 a, .int .i64 n] w (SomeR n w) := by
  refine (within_any a n w ha.1 ha.2 (by omega) (by omega)).mono ?_
  rintro e w' ⟨he, hw⟩
  have h3 := Int.emod_nonneg a (show (n : Int) ≠ 0 by omega)
  have h4 := Int.emod_lt_of_pos a (show (0 : Int) < n by omega)
  exact ⟨(a % n).toNat, by omega, by rw [he]; exact ret_int (by omega), hw⟩
def MkC (r : Rw) : Prop := ∀ (w0 w : World) (g m : Nat) (sc : List ByteArray) (scv : Value), Pre w0 w g m sc scv → m + 2 * r.cnt ≤ 50000 → ∀ (po : Option Addr) (pc : Nat), RsAt w0 po r.parts → I64 r.num → I64 r.at_ →
  Calls Tryd.prog 30 #[.pointer (some ⟨g, 0, none⟩), .agg #[.int .i64 r.num, .int .i64 r.at_, .slice po r.parts.length pc], scv] w (RetMade sc g m (2 * r.cnt) (4 * r.cnt) w)
/-- How many raw terms the part at a place is. -/
def pcn (pl : List Rw) (i : Nat) : Nat := match pl[i]? with
  | some r => r.cnt
  | none => 0
theorem pcn_take (pl : List Rw) (i : Nat) : Rw.cnts (pl.take (i + 1)) = Rw.cnts (pl.take i) + pcn pl i := by
  unfold pcn
  by_cases h : i < pl.length
  · rw [List.getElem?_eq_getElem h, cnts_take pl i h]
  · rw [List.getElem?_eq_none (by omega), List.take_of_length_le (by omega), List.take_of_length_le (by omega)]; rfl
theorem cnts_take_le (pl : List Rw) (i : Nat) : Rw.cnts (pl.take i) ≤ Rw.cnts pl := by
  induction pl generalizing i with
  | nil => simp
  | cons r l ih =>
    cases i with
    | zero => simp [Rw.cnts]
    | succ i => have := ih i; simp only [List.take_succ_cons, Rw.cnts]; omega
theorem I64_wrap (x : Int) : I64 (wrap64 x) := wf_I64 _ (wrap64_wf x)
theorem Pre.move {w0 w w' : World} {g m m' : Nat} {sc : List ByteArray} {scv : Value} (h : Pre w0 w g m sc scv) (hb : But w.heap.size g w w') (hm : Mk w' g m') (hle : m ≤ m') : Pre w0 w' g m' sc scv := by
  refine ⟨h.below.trans ⟨hb.os, hb.tape, hb.output, hb.size, fun k hk => hb.block k (by have := h.below.size; omega) (by have := h.maker; omega)⟩, h.maker, hm, h.scope.keeps (hb.keeps fun k hk => hk), h.good, Nat.le_trans h.few (by omega)⟩
theorem Pre.below' {w0 w w' : World} {g m : Nat} {sc : List ByteArray} {scv : Value} (h : Pre w0 w g m sc scv) (hb : Below w.heap.size w w') : Pre w0 w' g m sc scv := h.move (But.of hb) (h.cnt.below hb) (Nat.le_refl _)
/-- A part that needs nothing: it is laid in the result's block. -/
theorem made_leaf {sc : List ByteArray} {g m c s : Nat} {w W : World} {k : Int} {t : ByteArray} (hM : Made sc m m (.mk k t [] [])) (hmk : Mk w g m) (hb : Below w.heap.size w W) (h : 1 ≤ s) :
    RetMade sc g m c s w (.returned (.agg #[.int .i64 k, .string t, .slice none 0 0, .slice none 0 0])) W :=
  ⟨_, _, m, rfl, by rw [EAt_mk]; exact ⟨_, _, rfl, .inl ⟨rfl, rfl⟩, .inl ⟨rfl, rfl⟩⟩, hM, by simpa [Et.size, Et.sizes] using h, Nat.le_add_right _ _, hmk.below hb, But.of hb⟩
def cstT : List ByteArray := [⟨#[48]⟩, ⟨#[49]⟩, ⟨#[50]⟩, ⟨#[45, 51]⟩, ⟨#[49, 48]⟩]
theorem cstT_num (i : Nat) (h : i < 5) : (cstT.getD i ⟨#[]⟩).size ≤ 100 ∧ num (cstT.getD i ⟨#[]⟩) = true := by
  match i, h with
  | 0, _ => decide
  | 1, _ => decide
  | 2, _ => decide
  | 3, _ => decide
  | 4, _ => decide
  | n + 5, h => exact absurd h (by omega)
theorem var_any (s : ByteArray) (w : World) : Calls Tryd.prog 25 #[.string s] w fun e w' => e = .returned (.agg #[.int .i64 5, .string s, .slice none 0 0, .slice none 0 0]) ∧ Below w.heap.size w w' := by
  have HB := Lib.hid ((Below.refl w.heap.size w).alloc (Nat.le_refl _) (.cells #[.int .i64 5, .string s, .slice none 0 0, .slice none 0 0] 28))
  go_enter Tryd.func25, Tryd.ntmps25
  go_wp2_with fail
  refine bodyPost_ret (results_cell_row rfl _ _ w.heap.size 28 #[.int .i64 5, .string s, .slice none 0 0, .slice none 0 0] (0, 0) _ rfl (alloc_at w _) Tryd.underlying28 rfl info28) rfl ?_
  exact ⟨rfl, HB.out⟩
theorem But.setRow {B g : Nat} {a w : World} (h : But B g a w) (x : Nat) (cs : Array Value) (hx : B ≤ x) : But B g a (w.setRow x cs) :=
  h.trans ⟨rfl, rfl, rfl, by simp, fun k hk _ => setRow_other w x k cs (by omega)⟩
/-- What a call handed back is laid in the result's block, that was there before the call. -/
theorem made_store {sc : List ByteArray} {g m c c' s s' : Nat} {w W w5 : World} {e : Ending} (h : RetMade sc g m c s W e w5) (hb : Below w.heap.size w W) (hg : g < w.heap.size) (hx : w.heap.size + 1 < W.heap.size) (hz : W.heap[w.heap.size + 1]? = some (.cells Z4 28 (0, 0))) (hc : c ≤ c') (hs : s ≤ s') :
    ∃ k t nv av, e = .returned (.agg #[.int .i64 k, .string t, nv, av]) ∧ w5.heap[w.heap.size + 1]? = some (.cells Z4 28 (0, 0)) ∧ (#[.int .i64 k, .string t, nv, av] : Array Value).all (·.oneCell') = true ∧
      RetMade sc g m c' s' w (.returned (.agg #[.int .i64 k, .string t, nv, av])) (w5.setRow (w.heap.size + 1) #[.int .i64 k, .string t, nv, av]) := by
  obtain ⟨cs, t, m', rfl, hat, hM, hsz, hm', hmk, hbut⟩ := h
  obtain ⟨k, tx, nv, av, rfl, o1, o2⟩ := EAt_form hat
  have hs1 := hb.size
  refine ⟨k, tx, nv, av, rfl, ?_, by simp [Value.oneCell'] at o1 o2 ⊢; exact ⟨o1, o2⟩, _, t, m', rfl, ?_, hM, by omega, by omega, ?_, ?_⟩
  · rw [hbut.block _ hx (by omega)]; exact hz
  · refine Et.At.mono (fun x hx => by have : W.heap.size ≤ x := hx; omega) _ _ (Et.At.keeps ?_ _ _ hat)
    intro x cs2 T fz hx2 hxx _
    have : W.heap.size ≤ x := hx2
    exact ⟨fz, by rw [setRow_other w5 _ x _ (by omega)]; exact hxx⟩
  · unfold Mk; rw [setRow_other w5 _ g _ (by omega)]; exact hmk
  · exact ((But.of hb).trans (hbut.mono hs1)).setRow _ _ (by omega)
set_option maxHeartbeats 4000000 in
set_option maxRecDepth 100000 in
theorem part_any (k n : Int) (pl : List Rw) (ih : ∀ r ∈ pl, MkC r) (w0 w : World) (g m : Nat) (sc : List ByteArray) (scv : Value) (P : Pre w0 w g m sc scv) (po : Option Addr) (pc i : Nat) (hi : i ≤ 10) (hm : m + 2 * pcn pl i ≤ 50000) (hR : RsAt w0 po pl) (hn : I64 n) :
    Calls Tryd.prog 47 #[.pointer (some ⟨g, 0, none⟩), .agg #[.int .i64 k, .int .i64 n, .slice po pl.length pc], .int .i64 (i : Int), scv] w (RetMade sc g m (2 * pcn pl i) (1 + 4 * pcn pl i) w) := by
  have hb2 : Below w.heap.size w ((w.alloc (.cells #[.int .i64 k, .int .i64 n, .slice po pl.length pc] 53)).alloc (.cells Z4 28)) := ((Below.refl w.heap.size w).alloc (Nat.le_refl _) _).alloc (by simp) _
  have hz2 : ((w.alloc (.cells #[.int .i64 k, .int .i64 n, .slice po pl.length pc] 53)).alloc (.cells Z4 28)).heap[w.heap.size + 1]? = some (.cells Z4 28 (0, 0)) := by
    have h := alloc_at (w.alloc (.cells #[.int .i64 k, .int .i64 n, .slice po pl.length pc] 53)) (.cells Z4 28)
    have e : (w.alloc (.cells #[.int .i64 k, .int .i64 n, .slice po pl.length pc] 53)).heap.size = w.heap.size + 1 := by simp
    rw [e] at h; exact h
  have hs2 : ((w.alloc (.cells #[.int .i64 k, .int .i64 n, .slice po pl.length pc] 53)).alloc (.cells Z4 28)).heap.size = w.heap.size + 2 := by simp
  have hgw := P.cnt.lt
  have HB2 := Lib.hid hb2
  have HZ2 := Lib.hid hz2
  obtain ⟨so, sc1, rfl⟩ := P.scope.form
  by_cases hlt : i < pl.length
  · have q1 : decide ((i : Int) < (pl.length : Int)) = true := decide_eq_true (by omega)
    obtain ⟨b0, k', n', po', pl', pc', rfl, hlj, c0, c1, c2, i1, i2, hpl⟩ := hR.get i hlt
    have hbb := P.below.trans (hb2.mono P.below.size)
    have d0 := cell_below hbb c0
    have d1 := cell_below hbb c1
    have d2 := cell_below hbb c2
    have hpcn : pcn pl i = (Rw.mk k' n' pl').cnt := by unfold pcn; rw [List.getElem?_eq_getElem hlt, hlj]
    have FM := ih pl[i] (List.getElem_mem hlt)
    rw [hlj] at FM
    rw [hpcn] at hm ⊢
    have FC := Lib.hid (FM w0 _ g m sc _ (P.below' hb2) hm po' pc' hpl i1 i2)
    simp only [Rw.num, Rw.at_, Rw.parts] at FC
    clear FM ih hbb hlj c0 c1 c2 hpl i1 i2 hpcn hm P hn hb2 hz2
    go_enter Tryd.func47, Tryd.ntmps47
    go_wp2_with fail
    refine FC.out.mono ?_
    intro e w5 hret
    obtain ⟨k5, t5, nv5, av5, rfl, hz5, hone, hfin⟩ := made_store (c' := 2 * (Rw.mk k' n' pl').cnt) (s' := 1 + 4 * (Rw.mk k' n' pl').cnt) hret HB2.out hgw (by rw [hs2]; omega) HZ2.out (Nat.le_refl _) (by omega)
    have HZ5 := Lib.hid hz5
    have HF := Lib.hid hfin
    clear hret hz5 hfin
    go_wp2_with (refine wpList_store_row rfl 28 _ _ rfl (w.heap.size + 1) #[.int .i64 k5, .string t5, nv5, av5] rfl rfl 28 Z4 HZ5.out info28 rfl hone ?_)
    refine bodyPost_ret (results_cell_row rfl _ _ (w.heap.size + 1) 28 #[.int .i64 k5, .string t5, nv5, av5] (0, 0) _ rfl (setRow_heap w5 _ _ _ 28 _ HZ5.out) Tryd.underlying28 rfl info28) rfl ?_
    exact HF.out
  · have q1 : decide ((i : Int) < (pl.length : Int)) = false := decide_eq_false (by omega)
    have hpcn : pcn pl i = 0 := by unfold pcn; rw [List.getElem?_eq_none (by omega)]
    rw [hpcn]
    have F5 := Lib.hid (fun (a : Int) (ha : I64 a) w => within_some a 5 ha (by decide) (by decide) w)
    have CST : ∀ W : World, W.alloc (.cells #[.string ⟨#[48]⟩, .string ⟨#[49]⟩, .string ⟨#[50]⟩, .string ⟨#[45, 51]⟩, .string ⟨#[49, 48]⟩] 9) = W.alloc (.cells (tcells cstT) 9) := fun _ => rfl
    have HCS := Lib.hid CST
    have PP := Lib.hid P
    have hfew : sc.length ≤ 60000 := by have := P.few; omega
    clear ih hm hR hpcn hb2 hz2 CST
    by_cases hs0 : 0 < sc.length
    · have q2 : decide ((0 : Int) < (sc.length : Int)) = true := decide_eq_true (by omega)
      go_enter Tryd.func47, Tryd.ntmps47
      go_wp2_with fail
      refine (within_some _ 3 (I64_wrap _) (by decide) (by decide) _).mono ?_
      rintro e w5 ⟨r, hr, rfl, rfl⟩
      by_cases hr0 : 0 < r
      · have q3 : decide ((0 : Int) < (r : Int)) = true := decide_eq_true (by omega)
        go_wp2_with fail
        refine (within_some2 _ sc.length (I64_wrap _) hs0 hfew _).mono ?_
        rintro e w6 ⟨q, hq, rfl, rfl⟩
        generalize (w.alloc (.cells #[.int .i64 k, .int .i64 n, .slice po pl.length pc] 53)).alloc (.cells #[.int .i64 0, .string ⟨#[]⟩, .slice none 0 0, .slice none 0 0] 28) = W2 at HB2 HZ2 hs2 ⊢
        have PQ := PP.out.below' HB2.out
        obtain ⟨g1, o1, rfl, hg1, e0⟩ := PQ.scope.get q hq
        have hmem := List.getElem_mem hq
        obtain ⟨x, hx⟩ : ∃ x, sc[q] = x := ⟨_, rfl⟩
        rw [hx] at e0 hmem
        have hxs : x.size ≤ 100 := (PQ.good x hmem).2
        have hleaf : ∀ W3, Below W2.heap.size W2 W3 → RetMade sc g m 0 1 W2 (.returned (.agg #[.int .i64 5, .string x, .slice none 0 0, .slice none 0 0])) W3 := fun W3 hb3 => made_leaf (Made.var PQ.good hmem) PQ.cnt hb3 (Nat.le_refl _)
        have HL := Lib.hid hleaf
        clear PQ hleaf hmem hx hg1
        go_wp2_with fail
        refine (var_any x _).mono ?_
        rintro e w7 ⟨rfl, hb7⟩
        obtain ⟨k5, t5, nv5, av5, he5, hz5, hone, hfin⟩ := made_store (c' := 0) (s' := 1) (HL.out w7 hb7) HB2.out hgw (by rw [hs2]; omega) HZ2.out (Nat.le_refl _) (Nat.le_refl _)
        injection he5 with he5
        injection he5 with he5
        rw [← he5] at hone hfin
        have HZ5 := Lib.hid hz5
        have HF := Lib.hid hfin
        clear hz5 hfin hb7 he5
        go_wp2_with (refine wpList_store_row rfl 28 _ _ rfl (w.heap.size + 1) #[.int .i64 5, .string x, .slice none 0 0, .slice none 0 0] rfl rfl 28 Z4 HZ5.out info28 rfl hone ?_)
        refine bodyPost_ret (results_cell_row rfl _ _ (w.heap.size + 1) 28 #[.int .i64 5, .string x, .slice none 0 0, .slice none 0 0] (0, 0) _ rfl (setRow_heap w7 _ _ _ 28 _ HZ5.out) Tryd.underlying28 rfl info28) rfl ?_
        exact HF.out
      · have q3 : decide ((0 : Int) < (r : Int)) = false := decide_eq_false (by omega)
        have cN : ((w.alloc (.cells #[.int .i64 k, .int .i64 n, .slice po pl.length pc] 53)).alloc (.cells #[.int .i64 0, .string ⟨#[]⟩, .slice none 0 0, .slice none 0 0] 28)).cell? ⟨w.heap.size, 1, none⟩ = some (.int .i64 n) := by
          rw [Lib.cell_of_heap ((Lib.alloc_old _ _ _ (by simp)).trans (alloc_at w _))]; rfl
        generalize (w.alloc (.cells #[.int .i64 k, .int .i64 n, .slice po pl.length pc] 53)).alloc (.cells #[.int .i64 0, .string ⟨#[]⟩, .slice none 0 0, .slice none 0 0] 28) = W2 at HB2 HZ2 hs2 cN ⊢
        have cN2 : (W2.alloc (.cells (tcells cstT) 9)).cell? ⟨w.heap.size, 1, none⟩ = some (.int .i64 n) := cell_below ((Below.refl _ _).alloc (Nat.le_refl _) _) cN
        go_wp2_with fail
        rw [HCS.out]
        have hb3 : Below W2.heap.size W2 (W2.alloc (.cells (tcells cstT) 9)) := (Below.refl _ _).alloc (Nat.le_refl _) _
        have hg3 := alloc_at W2 (.cells (tcells cstT) 9)
        generalize W2.alloc (.cells (tcells cstT) 9) = W3 at hb3 hg3 ⊢
        refine (F5.out _ (I64_wrap _) _).mono ?_
        rintro e w6 ⟨q, hq, rfl, rfl⟩
        have e0 := tcells_get _ _ cstT hg3 q hq
        rw [hs2] at e0
        obtain ⟨x, hx⟩ : ∃ x, cstT.getD q ⟨#[]⟩ = x := ⟨_, rfl⟩
        have hxn := cstT_num q hq
        rw [hx] at e0 hxn
        have hleaf : RetMade sc g m 0 1 W2 (.returned (.agg #[.int .i64 1, .string x, .slice none 0 0, .slice none 0 0])) W3 := made_leaf (Made.leaf hxn.1 (by decide) (by simp [shapeB, textB, namesB, partsB, hxn.2])) (PP.out.below' HB2.out).cnt hb3 (Nat.le_refl _)
        obtain ⟨k5, t5, nv5, av5, he5, hz5, hone, hfin⟩ := made_store (c' := 0) (s' := 1) hleaf HB2.out hgw (by rw [hs2]; omega) HZ2.out (Nat.le_refl _) (Nat.le_refl _)
        injection he5 with he5
        injection he5 with he5
        rw [← he5] at hone hfin
        have HZ5 := Lib.hid hz5
        have HF := Lib.hid hfin
        clear hleaf hz5 hfin hx hxn hb3 hg3 he5
        go_wp2_with (refine wpList_store_row rfl 28 _ _ rfl (w.heap.size + 1) #[.int .i64 1, .string x, .slice none 0 0, .slice none 0 0] rfl rfl 28 Z4 HZ5.out info28 rfl hone ?_)
        refine bodyPost_ret (results_cell_row rfl _ _ (w.heap.size + 1) 28 #[.int .i64 1, .string x, .slice none 0 0, .slice none 0 0] (0, 0) _ rfl (setRow_heap W3 _ _ _ 28 _ HZ5.out) Tryd.underlying28 rfl info28) rfl ?_
        exact HF.out
    · obtain hsc : sc.length = 0 := by omega
      have q2 : decide ((0 : Int) < (sc.length : Int)) = false := decide_eq_false (by omega)
      go_enter Tryd.func47, Tryd.ntmps47
      go_upto_region 5 with fail
      have cN : ((w.alloc (.cells #[.int .i64 k, .int .i64 n, .slice po pl.length pc] 53)).alloc (.cells #[.int .i64 0, .string ⟨#[]⟩, .slice none 0 0, .slice none 0 0] 28)).cell? ⟨w.heap.size, 1, none⟩ = some (.int .i64 n) := by
        rw [Lib.cell_of_heap ((Lib.alloc_old _ _ _ (by simp)).trans (alloc_at w _))]; rfl
      generalize (w.alloc (.cells #[.int .i64 k, .int .i64 n, .slice po pl.length pc] 53)).alloc (.cells #[.int .i64 0, .string ⟨#[]⟩, .slice none 0 0, .slice none 0 0] 28) = W2 at HB2 HZ2 hs2 cN ⊢
      have cN2 : (W2.alloc (.cells (tcells cstT) 9)).cell? ⟨w.heap.size, 1, none⟩ = some (.int .i64 n) := cell_below ((Below.refl _ _).alloc (Nat.le_refl _) _) cN
      go_wp2_with fail
      rw [HCS.out]
      have hb3 : Below W2.heap.size W2 (W2.alloc (.cells (tcells cstT) 9)) := (Below.refl _ _).alloc (Nat.le_refl _) _
      have hg3 := alloc_at W2 (.cells (tcells cstT) 9)
      generalize W2.alloc (.cells (tcells cstT) 9) = W3 at hb3 hg3 ⊢
      refine (F5.out _ (I64_wrap _) _).mono ?_
      rintro e w6 ⟨q, hq, rfl, rfl⟩
      have e0 := tcells_get _ _ cstT hg3 q hq
      rw [hs2] at e0
      obtain ⟨x, hx⟩ : ∃ x, cstT.getD q ⟨#[]⟩ = x := ⟨_, rfl⟩
      have hxn := cstT_num q hq
      rw [hx] at e0 hxn
      have hleaf : RetMade sc g m 0 1 W2 (.returned (.agg #[.int .i64 1, .string x, .slice none 0 0, .slice none 0 0])) W3 := made_leaf (Made.leaf hxn.1 (by decide) (by simp [shapeB, textB, namesB, partsB, hxn.2])) (PP.out.below' HB2.out).cnt hb3 (Nat.le_refl _)
      obtain ⟨k5, t5, nv5, av5, he5, hz5, hone, hfin⟩ := made_store (c' := 0) (s' := 1) hleaf HB2.out hgw (by rw [hs2]; omega) HZ2.out (Nat.le_refl _) (Nat.le_refl _)
      injection he5 with he5
      injection he5 with he5
      rw [← he5] at hone hfin
      have HZ5 := Lib.hid hz5
      have HF := Lib.hid hfin
      clear hleaf hz5 hfin hx hxn hb3 hg3 he5
      go_wp2_with (refine wpList_store_row rfl 28 _ _ rfl (w.heap.size + 1) #[.int .i64 1, .string x, .slice none 0 0, .slice none 0 0] rfl rfl 28 Z4 HZ5.out info28 rfl hone ?_)
      refine bodyPost_ret (results_cell_row rfl _ _ (w.heap.size + 1) 28 #[.int .i64 1, .string x, .slice none 0 0, .slice none 0 0] (0, 0) _ rfl (setRow_heap W3 _ _ _ 28 _ HZ5.out) Tryd.underlying28 rfl info28) rfl ?_
      exact HF.out
end Go.Proofs.YtmcgocbkjdacaaaDoor
