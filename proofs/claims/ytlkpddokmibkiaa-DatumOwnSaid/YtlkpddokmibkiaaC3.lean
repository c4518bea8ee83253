/- thunkref2.Copy, at any datum. -/
import Derived.Test.YtlkpddokmibkiaaC2
namespace Go.Proofs.Ytlkpddokmibkiaa
open Go.RowKit
set_option linter.unusedVariables false
set_option linter.unusedSimpArgs false

theorem MAt.src {S : Nat → Prop} {w : World} {mo : Option Addr} {ml mc : Nat} {ms : List Int} (h : MAt S w (.slice mo ml mc) ms) : Src w mo ml mc ms := by
  rcases h with ⟨e, rfl⟩ | ⟨g, o, cap, arr, fz, e, _, hg, hc, _⟩
  · injection e with e1 e2 e3
    subst e1 e2 e3
    exact ⟨rfl, .inl ⟨rfl, rfl, rfl⟩⟩
  · injection e with e1 e2 e3
    subst e1 e2 e3
    refine ⟨rfl, .inr ⟨_, rfl, fun j hj => ?_⟩⟩
    have e : (⟨g, o, Option.none⟩ : Addr).add j = ⟨g, o + j, Option.none⟩ := by unfold Addr.add; split <;> simp_all
    rw [e, Lib.cell_of_heap hg]
    exact hc j hj
theorem MAt.ne {S : Nat → Prop} {w : World} {v : Value} {ms : List Int} {ob : Nat} {c : Array Value} {fz : Nat × Nat} (h : MAt S w v ms) (ho : w.heap[ob]? = some (.cells c 28 fz)) : MAt (fun x => S x ∧ x ≠ ob) w v ms := by
  rcases h with h | ⟨g, o, cap, arr, fz', h1, h2, h3, h4⟩
  · exact .inl h
  · refine .inr ⟨g, o, cap, arr, fz', h1, ⟨h2, ?_⟩, h3, h4⟩
    rintro rfl
    rw [ho] at h3
    injection h3 with h3
    injection h3 with _ h3 _
    exact absurd h3 (by decide)
theorem At_one {S : Nat → Prop} {w : World} {d : Dt} {k : Int} {t : ByteArray} {mv lv : Value} {p : Int} (h : Dt.At S w d #[.int .i64 k, .string t, mv, lv, .int .i64 p]) : mv.oneCell' = true ∧ lv.oneCell' = true := by
  obtain ⟨k', t', mv', lv', p', e, h1, h2⟩ := At_form h
  simp at e
  obtain ⟨_, _, rfl, rfl, _⟩ := e
  exact ⟨h1, h2⟩
theorem OwnD.mono {B B' : Nat} {w : World} {v : Value} {ds : List Dt} (h : OwnD B w v ds) (hB : B' ≤ B) : OwnD B' w v ds := by
  obtain ⟨xs, hown, hd⟩ := h
  refine ⟨xs, ⟨hown.1, ?_⟩, fun j hj => ?_⟩
  · rcases hown.2 with h | ⟨g, cap, cur, rfl, hb, r⟩
    · exact .inl h
    · exact .inr ⟨g, cap, cur, rfl, by omega, r⟩
  · obtain ⟨cs, h5, h1, h2⟩ := hd j hj
    exact ⟨cs, h5, h1, Dt.At.mono (fun g hg => ⟨by have := hg.1; omega, hg.2⟩) _ _ h2⟩
theorem OwnD.setRowB {B : Nat} {w : World} {v : Value} {ds : List Dt} (h : OwnD B w v ds) {a : Nat} (cs : Array Value) (ha : a < B) : OwnD B (w.setRow a cs) v ds := by
  obtain ⟨xs, hown, hd⟩ := h
  refine ⟨xs, ⟨hown.1, ?_⟩, fun j hj => ?_⟩
  · rcases hown.2 with h | ⟨g, cap, cur, rfl, hb, hg, r⟩
    · exact .inl h
    · exact .inr ⟨g, cap, cur, rfl, hb, by rw [setRow_other w _ g _ (by omega)]; exact hg, r⟩
  · obtain ⟨c, h5, h1, h2⟩ := hd j hj
    refine ⟨c, h5, h1, Dt.At.keeps ?_ _ _ h2⟩
    intro g c T fz hs hg _
    exact ⟨fz, by rw [setRow_other w _ g _ (by have : B ≤ g := hs.1; omega)]; exact hg⟩
/-- It returns a copy, its parts in a row of its own. -/
def RetCp (d : Dt) (w : World) (e : Ending) (w' : World) : Prop :=
  ∃ k t mv lv p, e = .returned (.agg #[.int .i64 k, .string t, mv, lv, .int .i64 p]) ∧ Dt.At (fun g => w.heap.size ≤ g) w' d #[.int .i64 k, .string t, mv, lv, .int .i64 p] ∧ OwnD w.heap.size w' lv d.parts ∧ Below w.heap.size w w'
/-- What the copy's own row is behind the store. -/
theorem copy_fin {w W1 WX : World} {ob : Nat} {raw : Array Value} {v : Value} {ms : List Int} {k : Int} {t : ByteArray} {q : Int} (hb1 : Below w.heap.size w W1) (hs1 : W1.heap.size = w.heap.size + 1 + 1)
    (r1 : W1.heap[w.heap.size]? = some (.cells raw 28 (0, 0))) (z1 : W1.heap[w.heap.size + 1]? = some (.cells Z5 28 (0, 0))) (hbx : Below (w.heap.size + 1 + 1) W1 WX) (ho : WX.heap[ob]? = some (.cells Z5 28 (0, 0))) (hob : w.heap.size + 1 < ob)
    (hv : MAt (fun x => w.heap.size + 1 < x) WX v ms) :
    Below (w.heap.size + 1 + 1) W1 (WX.setRow ob #[.int .i64 k, .string t, v, .slice none 0 0, .int .i64 q]) ∧ (WX.setRow ob #[.int .i64 k, .string t, v, .slice none 0 0, .int .i64 q]).heap[ob]? = some (.cells #[.int .i64 k, .string t, v, .slice none 0 0, .int .i64 q] 28 (0, 0)) ∧ (WX.setRow ob #[.int .i64 k, .string t, v, .slice none 0 0, .int .i64 q]).heap[w.heap.size]? = some (.cells raw 28 (0, 0)) ∧
      (WX.setRow ob #[.int .i64 k, .string t, v, .slice none 0 0, .int .i64 q]).heap[w.heap.size + 1]? = some (.cells Z5 28 (0, 0)) ∧ Below w.heap.size w (WX.setRow ob #[.int .i64 k, .string t, v, .slice none 0 0, .int .i64 q]) ∧ ob < (WX.setRow ob #[.int .i64 k, .string t, v, .slice none 0 0, .int .i64 q]).heap.size ∧ MAt (fun x => w.heap.size + 1 < x ∧ x ≠ ob) (WX.setRow ob #[.int .i64 k, .string t, v, .slice none 0 0, .int .i64 q]) v ms := by
  have b := below_setRow hbx ob #[.int .i64 k, .string t, v, .slice none 0 0, .int .i64 q] (by omega)
  refine ⟨b, setRow_heap WX _ _ _ 28 _ ho, by rw [b.block _ (by omega)]; exact r1, by rw [b.block _ (by omega)]; exact z1, hb1.trans (b.mono (by omega)), (Array.getElem?_eq_some_iff.1 (show (WX.setRow ob #[.int .i64 k, .string t, v, .slice none 0 0, .int .i64 q]).heap[ob]? = _ from setRow_heap WX _ _ _ 28 _ ho)).1, ?_⟩
  exact (hv.ne ho).keeps (fun x c T fz hx hg _ => ⟨fz, by rw [setRow_other WX _ x _ (by exact hx.2)]; exact hg⟩)

set_option maxHeartbeats 4000000 in
theorem copy_list (N : Nat) (hN : N ≤ 1000000) (ih : ∀ (d : Dt), d.size ≤ N → ∀ (S : Nat → Prop) (cs : Array Value) (w : World), Dt.At S w d cs → Calls Try.prog 26 #[.agg cs] w (RetCp d w))
    (k : Int) (t : ByteArray) (ms : List Int) (l : List Dt) (q : Int) (hsz : Dt.sizes l ≤ N) (mv : Value) (lo : Option Addr) (lc : Nat) (S : Nat → Prop) (w : World) (hM : MAt S w mv ms) (hL : LAt S w (.slice lo l.length lc) l) :
    Calls Try.prog 26 #[.agg #[.int .i64 k, .string t, mv, .slice lo l.length lc, .int .i64 q]] w (RetCp (.mk k t ms l q) w) := by
  have hm1 := hM.one
  have hms := hM.short
  obtain ⟨mo, mc, rfl⟩ := hM.form
  have IH := Lib.hid ih
  have HL := Lib.hid hL
  have HM0 := Lib.hid hM
  have HZ := Lib.hid hsz
  clear ih hL hsz hM
  obtain ⟨mv, hmv⟩ : ∃ mv, mv = Value.slice mo ms.length mc := ⟨_, rfl⟩
  rw [← hmv] at hm1 ⊢
  have HMV := Lib.hid hmv
  clear hmv
  go_enter Try.func26, Try.ntmps26
  go_upto_region 1 with fail
  rename_i K hK
  have REST : ∀ (u4 u5 u6 u7 u8 u9 u10 u11 u12 u13 u14 u15 u16 u17 u18 u19 u20 u21 u22 u23 u24 u25 u26 u27 u28 u29 u30 u31 u32 u33 u34 : Value) (wr : World) (ob : Nat) (v : Value), w.heap.size + 1 < ob → wr.heap[ob]? = some (.cells #[.int .i64 k, .string t, v, .slice none 0 0, .int .i64 q] 28 (0, 0)) → wr.heap[w.heap.size]? = some (.cells #[.int .i64 k, .string t, mv, .slice lo l.length lc, .int .i64 q] 28 (0, 0)) → wr.heap[w.heap.size + 1]? = some (.cells Z5 28 (0, 0)) →
      Below w.heap.size w wr → ob < wr.heap.size → MAt (fun x => w.heap.size + 1 < x ∧ x ≠ ob) wr v ms → K ⟨#[.agg #[.int .i64 k, .string t, mv, .slice lo l.length lc, .int .i64 q], .pointer (some ⟨w.heap.size, 0, none⟩), .pointer (some ⟨w.heap.size + 1, 0, none⟩), .pointer (some ⟨ob, 0, none⟩), u4, u5, u6, u7, u8, u9, u10, u11, u12, u13, u14, u15, u16, u17, u18, u19, u20, u21, u22, u23, u24, u25, u26, u27, u28, u29, u30, u31, u32, u33, u34], []⟩ wr := by
    intro u4 u5 u6 u7 u8 u9 u10 u11 u12 u13 u14 u15 u16 u17 u18 u19 u20 u21 u22 u23 u24 u25 u26 u27 u28 u29 u30 u31 u32 u33 u34 wr ob v hob o5 r5 z5 u5 s5 vm
    refine hK _ _ ?_
    clear hK K
    have HOB := Lib.hid hob
    have O5 := Lib.hid o5
    have R5 := Lib.hid r5
    have Z5H := Lib.hid z5
    have U5 := Lib.hid u5
    have S5 := Lib.hid s5
    have VM := Lib.hid vm
    clear hob o5 r5 z5 u5 s5 vm
    go_wp2_with fail
    obtain ⟨W5, hW5⟩ : ∃ W5, W5 = wr := ⟨_, rfl⟩
    rw [← hW5] at O5 R5 Z5H U5 S5 VM ⊢
    clear hW5 wr
    go_loopw [4] (fun iv wr => LInv3 id l ob k t v q W5 iv wr) (fun iv _ => l.length - (intOf iv).toNat)
    case atStart => exact ⟨0, .slice none 0 0, Nat.zero_le _, rfl, O5.out, OwnD.nil _ _, Hole.refl _ _ _ _⟩
    case round =>
      obtain ⟨j, v2, hj, rfl, ho, hown, hh⟩ := hrel
      have hll := length_sizes l
      have hl1 : l.length ≤ 1000000 := by have := HZ.out; omega
      have hsz5 := S5.out
      have hob := HOB.out
      have r2 : wr.heap[w.heap.size]? = some (.cells #[.int .i64 k, .string t, mv, .slice lo l.length lc, .int .i64 q] 28 (0, 0)) := by rw [hh.block _ (by omega) (by omega) (by omega)]; exact R5.out
      have z2 : wr.heap[w.heap.size + 1]? = some (.cells Z5 28 (0, 0)) := by rw [hh.block _ (by omega) (by omega) (by omega)]; exact Z5H.out
      have cr : wr.cell? ⟨w.heap.size, 3, none⟩ = some (.slice lo l.length lc) := by rw [Lib.cell_of_heap r2]; rfl
      have hbw : Below w.heap.size w wr := by
        have h := hh.to (B' := w.heap.size) (by omega) (by omega)
        exact U5.out.trans ⟨h.os, h.tape, h.output, h.size, fun k hk => h.block k hk (by omega)⟩
      have HO := Lib.hid ho
      have OW := Lib.hid hown
      have HH := Lib.hid hh
      have R2 := Lib.hid r2
      have Z2 := Lib.hid z2
      have CR := Lib.hid cr
      have BW := Lib.hid hbw
      clear ho hown hh r2 z2 hbw hll
      by_cases hlt : j < l.length
      · have q1 : decide ((j : Int) < (l.length : Int)) = true := decide_eq_true (by omega)
        obtain ⟨b, o, k', t', mv', lv', p', rfl, hS, ⟨bc, bfz, hbh⟩, hat, e0, e1, e2, e3, e4, o1, o2⟩ := HL.out.get j hlt
        have hbl : b < w.heap.size := (Array.getElem?_eq_some_iff.1 hbh).1
        have hsj := size_get l j hlt
        have E0 := Lib.hid e0
        have E1 := Lib.hid e1
        have E2 := Lib.hid e2
        have E3 := Lib.hid e3
        have E4 := Lib.hid e4
        have HAT := Lib.hid hat
        clear e0 e1 e2 e3 e4 hat hbh hS
        go_upto_region 5 with fail
        clear cr
        obtain ⟨WD, hWD⟩ : ∃ WD, WD = wr.drew := ⟨_, rfl⟩
        have bd : Below wr.heap.size wr WD := by rw [hWD]; exact (Below.refl _ _).drew
        have hsd : WD.heap.size = wr.heap.size := by rw [hWD]; rfl
        have BD := Lib.hid bd
        have SD := Lib.hid hsd
        have hso : ob < wr.heap.size := by have := HH.out.size; omega
        have CO' := Lib.hid (show WD.cell? ⟨ob, 3, none⟩ = some v2 by rw [BD.out.cell (p := ⟨ob, 3, none⟩) (by show ob < _; omega), Lib.cell_of_heap HO.out]; rfl)
        have bwd : Below w.heap.size w WD := BW.out.trans (bd.mono BW.out.size)
        have HX := Lib.hid (IH.out l[j] (by have := HZ.out; omega) _ #[.int .i64 k', .string t', mv', lv', .int .i64 p'] WD (Dt.At.keeps (Keeps.of_below bwd) _ _ HAT.out))
        refine wp_region_noPanic ?_
        refine wp_region_held_drew (S := But W5.heap.size ob wr) (by kernel_rfl) ((But.refl _ _ _).drew) (fun hHeld => ?_)
        rw [← hWD] at hHeld ⊢
        have hw5 := U5.out.size
        clear bd hWD hsd bwd
        refine wpAnyH_take (i := 0) (v := Value.pointer (some ⟨ob, 3, none⟩)) rfl (by kernel_rfl) (by kernel_rfl) (by kernel_rfl) (fun _ _ _ h => h) (Or.inl ⟨rfl, fun w' hw' => ?_⟩) hHeld ?_
        · go_simp
        simp only [List.getElem_toArray, List.getElem_cons_succ, List.getElem_cons_zero, Act.put, List.setIfInBounds_toArray, List.set_cons_zero, List.set_cons_succ]
        refine wpAnyH_take (i := 2) (v := Value.pointer (some ⟨w.heap.size, 3, none⟩)) rfl (by kernel_rfl) (by kernel_rfl) (by kernel_rfl) (fun _ _ _ h => h) (Or.inl ⟨rfl, fun w' hw' => ?_⟩) hHeld ?_
        · go_simp
        simp only [List.getElem_toArray, List.getElem_cons_succ, List.getElem_cons_zero, Act.put, List.setIfInBounds_toArray, List.set_cons_zero, List.set_cons_succ]
        refine wpAnyH_take (i := 3) (v := Value.slice (some ⟨b, o, none⟩) l.length lc) rfl (by kernel_rfl) (by kernel_rfl) (by kernel_rfl) (fun _ _ _ h => h) (Or.inl ⟨rfl, fun w' hw' => ?_⟩) hHeld ?_
        · have c := (hw'.cell (p := ⟨w.heap.size, 3, none⟩) (by show w.heap.size < _; omega) (by show w.heap.size ≠ _; omega)).trans CR.out; go_simp
        simp only [List.getElem_toArray, List.getElem_cons_succ, List.getElem_cons_zero, Act.put, List.setIfInBounds_toArray, List.set_cons_zero, List.set_cons_succ]
        refine wpAnyH_take (i := 4) (v := Value.int .i64 j) rfl (by kernel_rfl) (by kernel_rfl) (by kernel_rfl) (fun _ _ _ h => h) (Or.inl ⟨rfl, fun w' hw' => ?_⟩) hHeld ?_
        · go_simp
        simp only [List.getElem_toArray, List.getElem_cons_succ, List.getElem_cons_zero, Act.put, List.setIfInBounds_toArray, List.set_cons_zero, List.set_cons_succ]
        refine wpAnyH_take (i := 5) (v := Value.pointer (some ⟨b, o + j * 5, none⟩)) rfl (by kernel_rfl) (by kernel_rfl) (by kernel_rfl) (fun _ _ _ h => h) (Or.inl ⟨rfl, fun w' hw' => ?_⟩) hHeld ?_
        · go_simp
        simp only [List.getElem_toArray, List.getElem_cons_succ, List.getElem_cons_zero, Act.put, List.setIfInBounds_toArray, List.set_cons_zero, List.set_cons_succ]
        refine wpAnyH_take (i := 6) rfl (by kernel_rfl) (by kernel_rfl) (by kernel_rfl) (fun _ _ _ h => h) (yieldsIf_load_mid (by rfl) _ _ rfl b (o + j * 5) rfl [.int .i64 k', .string t', mv', lv', .int .i64 p'] _ (fun w' hw' => range5 (fun a ha hb => (hw'.cell (by omega) (by rw [ha]; omega)).trans (BW.out.cell (by omega))) hbl E0.out E1.out E2.out E3.out E4.out) Try.underlying28 rfl info28) hHeld ?_
        simp only [List.getElem_toArray, List.getElem_cons_succ, List.getElem_cons_zero, Act.put, List.setIfInBounds_toArray, List.set_cons_zero, List.set_cons_succ]
        refine wpAnyH_ready (rs := [1, 7]) (by kernel_rfl) (by simp) ?_
        refine (AllReadyH.cons rfl (fun K hK => ?_) (AllReadyH.cons rfl (fun K hK => ?_) AllReadyH.nil))
        · skip
          have c45 := CO'.out
          go_simp
          refine hK.out _ _ hHeld (fun hHeld => ?_)
          clear hK K c45
          try simp only [List.getElem_toArray, List.getElem_cons_succ, List.getElem_cons_zero, Act.put, List.setIfInBounds_toArray, List.set_cons_zero, List.set_cons_succ]
          refine wpAnyH_ready (rs := [7]) (by kernel_rfl) (by simp) ?_
          refine (AllReadyH.cons rfl (fun K hK => ?_) AllReadyH.nil)
          go_simp
          refine HX.out.mono ?_
          rintro e w7 ⟨k5, t5, mv5, lv5, p5, rfl, hat, -, hb⟩
          have o3 := (At_one hat).1
          have o4 := (At_one hat).2
          obtain ⟨xs, hown8, hz8, hS7, hS8, c7, c8, hnx⟩ := part_more3 (fs := id) (f := id) hlt hl1 hsz5 (by rw [id, List.length_take]; omega) (List.take_succ_eq_append_getElem hlt) HO.out OW.out HH.out BD.out SD.out hat hb rfl
          have HN := Lib.hid hnx
          have HO8 := Lib.hid hown8
          have HS8 := Lib.hid hS8
          have C7 := Lib.hid c7
          have C8 := Lib.hid c8
          refine hK.out _ _ hS7 (fun hHeld => ?_)
          clear hK K hat hb hown8 hnx hS7 hS8 c7 c8
          try simp only [List.getElem_toArray, List.getElem_cons_succ, List.getElem_cons_zero, Act.put, List.setIfInBounds_toArray, List.set_cons_zero, List.set_cons_succ]
          refine wpAnyH_ready (rs := [8]) (by kernel_rfl) (by simp) ?_
          refine (AllReadyH.cons rfl (fun K hK => ?_) AllReadyH.nil)
          go_simp
          refine hK.out _ _ HS8.out (fun hHeld => ?_)
          clear hK K
          try simp only [List.getElem_toArray, List.getElem_cons_succ, List.getElem_cons_zero, Act.put, List.setIfInBounds_toArray, List.set_cons_zero, List.set_cons_succ]
          refine wpAnyH_ready (rs := [9]) (by kernel_rfl) (by simp) ?_
          refine (AllReadyH.cons rfl (fun K hK => ?_) AllReadyH.nil)
          rw [if_pos (by rfl)]
          refine wp_app (Operand.tmp 24) (Operand.tmp 31) rfl W5.heap.size v2 j xs rfl HO8.out w7.heap.size 1 rfl [.int .i64 k5, .string t5, mv5, lv5, .int .i64 p5] rfl (fun i u hu => ?_) (by simp; exact ⟨rfl, rfl, o3, o4, rfl⟩) (by omega) hz8 ?_
          · rw [Lib.cell_of_heap (alloc_at w7 (.cells #[.int .i64 k5, .string t5, mv5, lv5, .int .i64 p5] 28))]; simpa using hu
          intro v' w9 hown9 hg9 hv9
          obtain ⟨so, sn, sc, rfl⟩ := own_form hown9
          obtain ⟨hS9, cc, cf, hS10, hM⟩ := HN.out _ w9 hown9 hg9 hv9
          have HM := Lib.hid hM
          have HS10 := Lib.hid hS10
          have CC := Lib.hid cc
          have CF := Lib.hid cf
          refine hK.out _ _ hS9 (fun hHeld => ?_)
          clear hK K hown9 hg9 hv9 hS10 hM HN HO8 hS9 cc cf
          try simp only [List.getElem_toArray, List.getElem_cons_succ, List.getElem_cons_zero, Act.put, List.setIfInBounds_toArray, List.set_cons_zero, List.set_cons_succ]
          refine wpAnyH_take (i := 10) (v := Value.pointer (some ⟨ob, 3, none⟩)) rfl (by kernel_rfl) (by kernel_rfl) (by kernel_rfl) (fun _ _ _ h => h) (Or.inl ⟨rfl, fun w' hw' => ?_⟩) hHeld ?_
          · go_simp
          simp only [List.getElem_toArray, List.getElem_cons_succ, List.getElem_cons_zero, Act.put, List.setIfInBounds_toArray, List.set_cons_zero, List.set_cons_succ]
          refine wpAnyH_ready (rs := [11]) (by kernel_rfl) (by simp) ?_
          refine (AllReadyH.cons rfl (fun K hK => ?_) AllReadyH.nil)
          have cc := CC.out
          have cf := CF.out
          go_simp
          refine hK.out _ _ HS10.out (fun hHeld => ?_)
          clear hK K cc cf
          try simp only [List.getElem_toArray, List.getElem_cons_succ, List.getElem_cons_zero, Act.put, List.setIfInBounds_toArray, List.set_cons_zero, List.set_cons_succ]
          refine wpAnyH_done (by kernel_rfl) ?_ _
          refine NoPanic.normal ?_
          clear hHeld
          go_wp2_with fail
          go_roundw
          case rel => exact HM.out
          case measure => simp [intOf]; omega
        · skip
          go_simp
          refine HX.out.mono ?_
          rintro e w7 ⟨k5, t5, mv5, lv5, p5, rfl, hat, -, hb⟩
          have o3 := (At_one hat).1
          have o4 := (At_one hat).2
          obtain ⟨xs, hown8, hz8, hS7, hS8, c7, c8, hnx⟩ := part_more3 (fs := id) (f := id) hlt hl1 hsz5 (by rw [id, List.length_take]; omega) (List.take_succ_eq_append_getElem hlt) HO.out OW.out HH.out BD.out SD.out hat hb rfl
          have HN := Lib.hid hnx
          have HO8 := Lib.hid hown8
          have HS8 := Lib.hid hS8
          have C7 := Lib.hid c7
          have C8 := Lib.hid c8
          refine hK.out _ _ hS7 (fun hHeld => ?_)
          clear hK K hat hb hown8 hnx hS7 hS8 c7 c8
          try simp only [List.getElem_toArray, List.getElem_cons_succ, List.getElem_cons_zero, Act.put, List.setIfInBounds_toArray, List.set_cons_zero, List.set_cons_succ]
          refine wpAnyH_ready (rs := [1, 8]) (by kernel_rfl) (by simp) ?_
          refine (AllReadyH.cons rfl (fun K hK => ?_) (AllReadyH.cons rfl (fun K hK => ?_) AllReadyH.nil))
          · skip
            have c45 := C7.out
            go_simp
            refine hK.out _ _ hHeld (fun hHeld => ?_)
            clear hK K c45
            try simp only [List.getElem_toArray, List.getElem_cons_succ, List.getElem_cons_zero, Act.put, List.setIfInBounds_toArray, List.set_cons_zero, List.set_cons_succ]
            refine wpAnyH_ready (rs := [8]) (by kernel_rfl) (by simp) ?_
            refine (AllReadyH.cons rfl (fun K hK => ?_) AllReadyH.nil)
            go_simp
            refine hK.out _ _ HS8.out (fun hHeld => ?_)
            clear hK K
            try simp only [List.getElem_toArray, List.getElem_cons_succ, List.getElem_cons_zero, Act.put, List.setIfInBounds_toArray, List.set_cons_zero, List.set_cons_succ]
            refine wpAnyH_ready (rs := [9]) (by kernel_rfl) (by simp) ?_
            refine (AllReadyH.cons rfl (fun K hK => ?_) AllReadyH.nil)
            rw [if_pos (by rfl)]
            refine wp_app (Operand.tmp 24) (Operand.tmp 31) rfl W5.heap.size v2 j xs rfl HO8.out w7.heap.size 1 rfl [.int .i64 k5, .string t5, mv5, lv5, .int .i64 p5] rfl (fun i u hu => ?_) (by simp; exact ⟨rfl, rfl, o3, o4, rfl⟩) (by omega) hz8 ?_
            · rw [Lib.cell_of_heap (alloc_at w7 (.cells #[.int .i64 k5, .string t5, mv5, lv5, .int .i64 p5] 28))]; simpa using hu
            intro v' w9 hown9 hg9 hv9
            obtain ⟨so, sn, sc, rfl⟩ := own_form hown9
            obtain ⟨hS9, cc, cf, hS10, hM⟩ := HN.out _ w9 hown9 hg9 hv9
            have HM := Lib.hid hM
            have HS10 := Lib.hid hS10
            have CC := Lib.hid cc
            have CF := Lib.hid cf
            refine hK.out _ _ hS9 (fun hHeld => ?_)
            clear hK K hown9 hg9 hv9 hS10 hM HN HO8 hS9 cc cf
            try simp only [List.getElem_toArray, List.getElem_cons_succ, List.getElem_cons_zero, Act.put, List.setIfInBounds_toArray, List.set_cons_zero, List.set_cons_succ]
            refine wpAnyH_take (i := 10) (v := Value.pointer (some ⟨ob, 3, none⟩)) rfl (by kernel_rfl) (by kernel_rfl) (by kernel_rfl) (fun _ _ _ h => h) (Or.inl ⟨rfl, fun w' hw' => ?_⟩) hHeld ?_
            · go_simp
            simp only [List.getElem_toArray, List.getElem_cons_succ, List.getElem_cons_zero, Act.put, List.setIfInBounds_toArray, List.set_cons_zero, List.set_cons_succ]
            refine wpAnyH_ready (rs := [11]) (by kernel_rfl) (by simp) ?_
            refine (AllReadyH.cons rfl (fun K hK => ?_) AllReadyH.nil)
            have cc := CC.out
            have cf := CF.out
            go_simp
            refine hK.out _ _ HS10.out (fun hHeld => ?_)
            clear hK K cc cf
            try simp only [List.getElem_toArray, List.getElem_cons_succ, List.getElem_cons_zero, Act.put, List.setIfInBounds_toArray, List.set_cons_zero, List.set_cons_succ]
            refine wpAnyH_done (by kernel_rfl) ?_ _
            refine NoPanic.normal ?_
            clear hHeld
            go_wp2_with fail
            go_roundw
            case rel => exact HM.out
            case measure => simp [intOf]; omega
          · skip
            go_simp
            refine hK.out _ _ HS8.out (fun hHeld => ?_)
            clear hK K
            try simp only [List.getElem_toArray, List.getElem_cons_succ, List.getElem_cons_zero, Act.put, List.setIfInBounds_toArray, List.set_cons_zero, List.set_cons_succ]
            refine wpAnyH_ready (rs := [1]) (by kernel_rfl) (by simp) ?_
            refine (AllReadyH.cons rfl (fun K hK => ?_) AllReadyH.nil)
            have c45 := C8.out
            go_simp
            refine hK.out _ _ hHeld (fun hHeld => ?_)
            clear hK K c45
            try simp only [List.getElem_toArray, List.getElem_cons_succ, List.getElem_cons_zero, Act.put, List.setIfInBounds_toArray, List.set_cons_zero, List.set_cons_succ]
            refine wpAnyH_ready (rs := [9]) (by kernel_rfl) (by simp) ?_
            refine (AllReadyH.cons rfl (fun K hK => ?_) AllReadyH.nil)
            rw [if_pos (by rfl)]
            refine wp_app (Operand.tmp 24) (Operand.tmp 31) rfl W5.heap.size v2 j xs rfl HO8.out w7.heap.size 1 rfl [.int .i64 k5, .string t5, mv5, lv5, .int .i64 p5] rfl (fun i u hu => ?_) (by simp; exact ⟨rfl, rfl, o3, o4, rfl⟩) (by omega) hz8 ?_
            · rw [Lib.cell_of_heap (alloc_at w7 (.cells #[.int .i64 k5, .string t5, mv5, lv5, .int .i64 p5] 28))]; simpa using hu
            intro v' w9 hown9 hg9 hv9
            obtain ⟨so, sn, sc, rfl⟩ := own_form hown9
            obtain ⟨hS9, cc, cf, hS10, hM⟩ := HN.out _ w9 hown9 hg9 hv9
            have HM := Lib.hid hM
            have HS10 := Lib.hid hS10
            have CC := Lib.hid cc
            have CF := Lib.hid cf
            refine hK.out _ _ hS9 (fun hHeld => ?_)
            clear hK K hown9 hg9 hv9 hS10 hM HN HO8 hS9 cc cf
            try simp only [List.getElem_toArray, List.getElem_cons_succ, List.getElem_cons_zero, Act.put, List.setIfInBounds_toArray, List.set_cons_zero, List.set_cons_succ]
            refine wpAnyH_take (i := 10) (v := Value.pointer (some ⟨ob, 3, none⟩)) rfl (by kernel_rfl) (by kernel_rfl) (by kernel_rfl) (fun _ _ _ h => h) (Or.inl ⟨rfl, fun w' hw' => ?_⟩) hHeld ?_
            · go_simp
            simp only [List.getElem_toArray, List.getElem_cons_succ, List.getElem_cons_zero, Act.put, List.setIfInBounds_toArray, List.set_cons_zero, List.set_cons_succ]
            refine wpAnyH_ready (rs := [11]) (by kernel_rfl) (by simp) ?_
            refine (AllReadyH.cons rfl (fun K hK => ?_) AllReadyH.nil)
            have cc := CC.out
            have cf := CF.out
            go_simp
            refine hK.out _ _ HS10.out (fun hHeld => ?_)
            clear hK K cc cf
            try simp only [List.getElem_toArray, List.getElem_cons_succ, List.getElem_cons_zero, Act.put, List.setIfInBounds_toArray, List.set_cons_zero, List.set_cons_succ]
            refine wpAnyH_done (by kernel_rfl) ?_ _
            refine NoPanic.normal ?_
            clear hHeld
            go_wp2_with fail
            go_roundw
            case rel => exact HM.out
            case measure => simp [intOf]; omega
      · obtain rfl : j = l.length := by omega
        have q1 : decide ((l.length : Int) < (l.length : Int)) = false := decide_eq_false (by omega)
        have hO' := OW.out
        rw [List.take_length] at hO'
        have OW' := Lib.hid hO'
        have hv1 := VM.out.one
        clear hO' OW hlt
        go_wp2_with (first | (refine wpList_load_row rfl 28 _ rfl ob rfl 28 #[.int .i64 k, .string t, v, v2, .int .i64 q] (0, 0) _ HO.out Try.underlying28 rfl info28 ?_) | (refine wpList_store_row rfl 28 _ _ rfl (w.heap.size + 1) #[.int .i64 k, .string t, v, v2, .int .i64 q] rfl rfl 28 Z5 Z2.out info28 rfl (by simp [Value.oneCell'] at hv1 ⊢; first | exact ⟨hv1, OW'.out.at.one⟩ | exact OW'.out.at.one) ?_))
        refine bodyPost_ret (results_cell_row rfl _ _ (w.heap.size + 1) 28 #[.int .i64 k, .string t, v, v2, .int .i64 q] (0, 0) _ rfl (setRow_heap wr _ _ _ 28 _ Z2.out) Try.underlying28 rfl info28) rfl ?_
        have hs2 := HH.out.size
        have kp : ∀ S : Nat → Prop, (∀ x, S x → w.heap.size + 1 < x) → Keeps S wr (wr.setRow (w.heap.size + 1) #[.int .i64 k, .string t, v, v2, .int .i64 q]) := by
          intro S hS x c T fz hx hg _
          exact ⟨fz, by rw [setRow_other wr _ x _ (by have := hS x hx; omega)]; exact hg⟩
        refine ⟨_, _, _, _, _, rfl, ?_, ?_, ?_⟩
        · rw [At_mk]
          refine ⟨_, _, rfl, ?_, ?_⟩
          · have h2 := VM.out.bound.keeps (w' := wr) (fun x c T fz hx hg _ => ⟨fz, by rw [HH.out.block x hx.2 hx.1.2 hx.1.2]; exact hg⟩)
            exact (h2.keeps (kp _ (fun x hx => hx.1.1))).mono (fun x hx => by have := hx.1.1; omega)
          · exact LAt.mono (LAt.keeps OW'.out.at (kp _ (fun x hx => by have : W5.heap.size ≤ x := hx; omega))) (fun x hx => by have : W5.heap.size ≤ x := hx; omega)
        · exact OwnD.mono (OwnD.setRowB OW'.out _ (by omega)) (by omega)
        · exact below_setRow BW.out _ _ (by omega)
  replace REST := Lib.hid REST
  clear hK
  obtain ⟨W1, hW1⟩ : ∃ W1, W1 = (w.alloc (.cells #[.int .i64 k, .string t, mv, .slice lo l.length lc, .int .i64 q] 28)).alloc (.cells Z5 28) := ⟨_, rfl⟩
  have hs1 : W1.heap.size = w.heap.size + 1 + 1 := by rw [hW1]; simp
  have B1 : Below w.heap.size w W1 := by rw [hW1]; exact ((Below.refl _ _).alloc (Nat.le_refl _) _).alloc (by simp) _
  have g0 : W1.heap[w.heap.size]? = some (.cells #[.int .i64 k, .string t, mv, .slice lo l.length lc, .int .i64 q] 28 (0, 0)) := by rw [hW1]; exact (Lib.alloc_old _ _ _ (by simp)).trans (alloc_at w _)
  have g1 : W1.heap[w.heap.size + 1]? = some (.cells Z5 28 (0, 0)) := by rw [hW1]; exact second_at w _ _
  change Code.wp Try.prog _ _ _ ((w.alloc (.cells #[.int .i64 k, .string t, mv, .slice lo l.length lc, .int .i64 q] 28)).alloc (.cells Z5 28))
  rw [← hW1]
  have C0 : Hid (W1.cell? ⟨w.heap.size, 0, none⟩ = some (.int .i64 k)) := by show _ = _; rw [Lib.cell_of_heap g0]; rfl
  have C1 : Hid (W1.cell? ⟨w.heap.size, 1, none⟩ = some (.string t)) := by show _ = _; rw [Lib.cell_of_heap g0]; rfl
  have C2 : Hid (W1.cell? ⟨w.heap.size, 2, none⟩ = some mv) := by show _ = _; rw [Lib.cell_of_heap g0]; rfl
  have C4 : Hid (W1.cell? ⟨w.heap.size, 4, none⟩ = some (.int .i64 q)) := by show _ = _; rw [Lib.cell_of_heap g0]; rfl
  have SRC : Hid (Src W1 mo ms.length mc ms) := (HM0.out.keeps (Keeps.of_below B1)).src
  have G0 := Lib.hid g0
  have G1 := Lib.hid g1
  have BB1 := Lib.hid B1
  have HS1 := Lib.hid hs1
  clear g0 g1 B1 hs1 hW1
  refine wp_region_noPanic ?_
  refine wp_region_held_drew (S := Below (w.heap.size + 1 + 1) W1) (by kernel_rfl) ((Below.refl _ _).drew) (fun hHeld => ?_)
  obtain ⟨WD, hWD⟩ : ∃ WD, WD = W1.drew := ⟨_, rfl⟩
  have BD : Below (w.heap.size + 1 + 1) W1 WD := by rw [hWD]; exact (Below.refl _ _).drew
  have hsd : WD.heap.size = w.heap.size + 1 + 1 := by rw [hWD]; exact HS1.out
  have HSD := Lib.hid hsd
  have BDH := Lib.hid BD
  rw [← hWD] at hHeld ⊢
  clear BD hWD hsd
  refine wpAnyH_take (i := 0) (v := Value.pointer (some ⟨w.heap.size, 0, none⟩)) rfl (by kernel_rfl) (by kernel_rfl) (by kernel_rfl) (fun _ _ _ h => h) (Or.inl ⟨rfl, fun w' hw' => ?_⟩) hHeld ?_
  · go_simp
  simp only [List.getElem_toArray, List.getElem_cons_succ, List.getElem_cons_zero, Act.put, List.setIfInBounds_toArray, List.set_cons_zero, List.set_cons_succ]
  refine wpAnyH_take (i := 1) (v := Value.int .i64 k) rfl (by kernel_rfl) (by kernel_rfl) (by kernel_rfl) (fun _ _ _ h => h) (Or.inl ⟨rfl, fun w' hw' => ?_⟩) hHeld ?_
  · have c := (hw'.cell (p := ⟨w.heap.size, 0, none⟩) (by show w.heap.size < _; omega)).trans C0.out; go_simp
  simp only [List.getElem_toArray, List.getElem_cons_succ, List.getElem_cons_zero, Act.put, List.setIfInBounds_toArray, List.set_cons_zero, List.set_cons_succ]
  refine wpAnyH_take (i := 2) (v := Value.pointer (some ⟨w.heap.size, 1, none⟩)) rfl (by kernel_rfl) (by kernel_rfl) (by kernel_rfl) (fun _ _ _ h => h) (Or.inl ⟨rfl, fun w' hw' => ?_⟩) hHeld ?_
  · go_simp
  simp only [List.getElem_toArray, List.getElem_cons_succ, List.getElem_cons_zero, Act.put, List.setIfInBounds_toArray, List.set_cons_zero, List.set_cons_succ]
  refine wpAnyH_take (i := 3) (v := Value.string t) rfl (by kernel_rfl) (by kernel_rfl) (by kernel_rfl) (fun _ _ _ h => h) (Or.inl ⟨rfl, fun w' hw' => ?_⟩) hHeld ?_
  · have c := (hw'.cell (p := ⟨w.heap.size, 1, none⟩) (by show w.heap.size < _; omega)).trans C1.out; go_simp
  simp only [List.getElem_toArray, List.getElem_cons_succ, List.getElem_cons_zero, Act.put, List.setIfInBounds_toArray, List.set_cons_zero, List.set_cons_succ]
  refine wpAnyH_take (i := 5) (v := Value.pointer (some ⟨w.heap.size, 2, none⟩)) rfl (by kernel_rfl) (by kernel_rfl) (by kernel_rfl) (fun _ _ _ h => h) (Or.inl ⟨rfl, fun w' hw' => ?_⟩) hHeld ?_
  · go_simp
  simp only [List.getElem_toArray, List.getElem_cons_succ, List.getElem_cons_zero, Act.put, List.setIfInBounds_toArray, List.set_cons_zero, List.set_cons_succ]
  refine wpAnyH_take (i := 6) (v := mv) rfl (by kernel_rfl) (by kernel_rfl) (by kernel_rfl) (fun _ _ _ h => h) (Or.inl ⟨rfl, fun w' hw' => ?_⟩) hHeld ?_
  · have c := (hw'.cell (p := ⟨w.heap.size, 2, none⟩) (by show w.heap.size < _; omega)).trans C2.out; go_simp
  simp only [List.getElem_toArray, List.getElem_cons_succ, List.getElem_cons_zero, Act.put, List.setIfInBounds_toArray, List.set_cons_zero, List.set_cons_succ]
  refine wpAnyH_take (i := 8) (v := Value.pointer (some ⟨w.heap.size, 4, none⟩)) rfl (by kernel_rfl) (by kernel_rfl) (by kernel_rfl) (fun _ _ _ h => h) (Or.inl ⟨rfl, fun w' hw' => ?_⟩) hHeld ?_
  · go_simp
  simp only [List.getElem_toArray, List.getElem_cons_succ, List.getElem_cons_zero, Act.put, List.setIfInBounds_toArray, List.set_cons_zero, List.set_cons_succ]
  refine wpAnyH_take (i := 9) (v := Value.int .i64 q) rfl (by kernel_rfl) (by kernel_rfl) (by kernel_rfl) (fun _ _ _ h => h) (Or.inl ⟨rfl, fun w' hw' => ?_⟩) hHeld ?_
  · have c := (hw'.cell (p := ⟨w.heap.size, 4, none⟩) (by show w.heap.size < _; omega)).trans C4.out; go_simp
  simp only [List.getElem_toArray, List.getElem_cons_succ, List.getElem_cons_zero, Act.put, List.setIfInBounds_toArray, List.set_cons_zero, List.set_cons_succ]
  refine wpAnyH_ready (rs := [4, 11]) (by kernel_rfl) (by simp) ?_
  refine (AllReadyH.cons rfl (fun K hK => ?_) (AllReadyH.cons rfl (fun K hK => ?_) AllReadyH.nil))
  · skip
    go_simp
    refine hK.out _ _ (hHeld.alloc (by have := HSD.out; simp; omega) _) (fun hHeld => ?_)
    clear hK K
    try simp only [List.getElem_toArray, List.getElem_cons_succ, List.getElem_cons_zero, Act.put, List.setIfInBounds_toArray, List.set_cons_zero, List.set_cons_succ]
    refine wpAnyH_ready (rs := [7, 11]) (by kernel_rfl) (by simp) ?_
    refine (AllReadyH.cons rfl (fun K hK => ?_) (AllReadyH.cons rfl (fun K hK => ?_) AllReadyH.nil))
    · skip
      rw [if_pos (by rfl)]
      have hN0 : Nums (w.heap.size + 1 + 1) (WD.alloc (.cells #[] 3)) (.slice (some ⟨WD.heap.size, 0, none⟩) 0 0) [] := Nums.none WD _ (by have := HSD.out; omega)
      have hbx : Below (w.heap.size + 1 + 1) W1 (WD.alloc (.cells #[] 3)) := hHeld
      have hsx : w.heap.size + 1 + 1 ≤ (WD.alloc (.cells #[] 3)).heap.size := by have := HSD.out; simp; try omega
      refine wp_appI (Operand.tmp 9) (Operand.tmp 11) rfl (w.heap.size + 1 + 1) (.slice (some ⟨WD.heap.size, 0, none⟩) 0 0) [] ms rfl hN0 mo ms.length mc (by rw [← HMV.out]; rfl) (SRC.out.below (by rw [HS1.out]; exact hbx)) (by simpa using hms) hsx ?_
      intro v w9 hown9 hg9
      have hb9 : Below (w.heap.size + 1 + 1) W1 w9 := nums_app hbx hN0 hsx hg9
      rw [List.nil_append] at hown9
      obtain ⟨vo, vc, rfl⟩ := nums_form hown9
      have hv9 : MAt (fun x => w.heap.size + 1 < x) w9 (.slice vo ms.length vc) ms := (hown9.at hms).mono (fun x hx => by have : w.heap.size + 1 + 1 ≤ x := hx; omega)
      have hv1 := hv9.one
      have hs9 : w.heap.size + 1 + 1 ≤ w9.heap.size := Nat.le_trans hsx hg9.size

      have HV9 := Lib.hid hv9
      have B9 := Lib.hid hb9
      have S9 := Lib.hid (show w.heap.size + 1 + 1 ≤ w9.heap.size by omega)
      refine hK.out _ _ hb9 (fun hHeld => ?_)
      clear hK K hown9 hg9 hN0 hbx hsx hv9 hb9 hs9
      try simp only [List.getElem_toArray, List.getElem_cons_succ, List.getElem_cons_zero, Act.put, List.setIfInBounds_toArray, List.set_cons_zero, List.set_cons_succ]
      refine wpAnyH_take (i := 10) (v := Value.agg #[.int .i64 k, .string t, .slice vo ms.length vc, .slice none 0 0, .int .i64 q]) rfl (by kernel_rfl) (by kernel_rfl) (by kernel_rfl) (fun _ _ _ h => h) (Or.inl ⟨rfl, fun w' hw' => ?_⟩) hHeld ?_
      · go_simp
      simp only [List.getElem_toArray, List.getElem_cons_succ, List.getElem_cons_zero, Act.put, List.setIfInBounds_toArray, List.set_cons_zero, List.set_cons_succ]
      refine wpAnyH_ready (rs := [11]) (by kernel_rfl) (by simp) ?_
      refine (AllReadyH.cons rfl (fun K hK => ?_) AllReadyH.nil)
      go_simp
      refine hK.out _ _ (B9.out.alloc S9.out _) (fun hHeld => ?_)
      clear hK K
      try simp only [List.getElem_toArray, List.getElem_cons_succ, List.getElem_cons_zero, Act.put, List.setIfInBounds_toArray, List.set_cons_zero, List.set_cons_succ]
      refine wpAnyH_ready (rs := [12]) (by kernel_rfl) (by simp) ?_
      refine (AllReadyH.cons rfl (fun K hK => ?_) AllReadyH.nil)
      rw [if_pos (by rfl)]
      have hob := alloc_at w9 (.cells Z5 28)
      obtain ⟨f1, f2, f3, f4, f5, f6, f7⟩ := copy_fin (k := k) (t := t) (q := q) (v := .slice vo ms.length vc) (ob := w9.heap.size) BB1.out HS1.out G0.out G1.out (B9.out.alloc S9.out (.cells Z5 28)) hob (by have := HSD.out; have := S9.out; omega) (HV9.out.keeps (Keeps.of_below ((Below.refl w9.heap.size w9).alloc (Nat.le_refl _) (.cells Z5 28))))
      refine wp_store_row 28 _ _ rfl (w9.heap.size) #[.int .i64 k, .string t, .slice vo ms.length vc, .slice none 0 0, .int .i64 q] rfl rfl 28 Z5 hob info28 rfl (by simp [Value.oneCell']) ?_
      refine hK.out _ _ f1 (fun hHeld => ?_)
      clear hK K
      try simp only [List.getElem_toArray, List.getElem_cons_succ, List.getElem_cons_zero, Act.put, List.setIfInBounds_toArray, List.set_cons_zero, List.set_cons_succ]
      refine wpAnyH_done (by kernel_rfl) ?_ _
      refine NoPanic.normal ?_
      clear hHeld
      exact REST.out _ _ _ _ _ _ _ _ _ _ _ _ _ _ _ _ _ _ _ _ _ _ _ _ _ _ _ _ _ _ _ _ (w9.heap.size) (.slice vo ms.length vc) (by have := HSD.out; have := S9.out; omega) f2 f3 f4 f5 f6 f7
    · skip
      go_simp
      refine hK.out _ _ (hHeld.alloc (by have := HSD.out; simp; omega) _) (fun hHeld => ?_)
      clear hK K
      try simp only [List.getElem_toArray, List.getElem_cons_succ, List.getElem_cons_zero, Act.put, List.setIfInBounds_toArray, List.set_cons_zero, List.set_cons_succ]
      refine wpAnyH_ready (rs := [7]) (by kernel_rfl) (by simp) ?_
      refine (AllReadyH.cons rfl (fun K hK => ?_) AllReadyH.nil)
      rw [if_pos (by rfl)]
      have hN0 : Nums (w.heap.size + 1 + 1) ((WD.alloc (.cells #[] 3)).alloc (.cells Z5 28)) (.slice (some ⟨WD.heap.size, 0, none⟩) 0 0) [] := (Nums.none WD _ (by have := HSD.out; omega)).below ((Below.refl _ _).alloc (Nat.le_refl _) _)
      have hbx : Below (w.heap.size + 1 + 1) W1 ((WD.alloc (.cells #[] 3)).alloc (.cells Z5 28)) := hHeld
      have hsx : w.heap.size + 1 + 1 ≤ ((WD.alloc (.cells #[] 3)).alloc (.cells Z5 28)).heap.size := by have := HSD.out; simp; try omega
      refine wp_appI (Operand.tmp 9) (Operand.tmp 11) rfl (w.heap.size + 1 + 1) (.slice (some ⟨WD.heap.size, 0, none⟩) 0 0) [] ms rfl hN0 mo ms.length mc (by rw [← HMV.out]; rfl) (SRC.out.below (by rw [HS1.out]; exact hbx)) (by simpa using hms) hsx ?_
      intro v w9 hown9 hg9
      have hb9 : Below (w.heap.size + 1 + 1) W1 w9 := nums_app hbx hN0 hsx hg9
      rw [List.nil_append] at hown9
      obtain ⟨vo, vc, rfl⟩ := nums_form hown9
      have hv9 : MAt (fun x => w.heap.size + 1 < x) w9 (.slice vo ms.length vc) ms := (hown9.at hms).mono (fun x hx => by have : w.heap.size + 1 + 1 ≤ x := hx; omega)
      have hv1 := hv9.one
      have hs9 : w.heap.size + 1 + 1 ≤ w9.heap.size := Nat.le_trans hsx hg9.size
      have ho9 : w9.heap[WD.heap.size + 1]? = some (.cells Z5 28 (0, 0)) := by
        rw [hg9.block _ (by simp) (by simp [Value.ownBlock])]
        have h := alloc_at (WD.alloc (.cells #[] 3)) (.cells Z5 28)
        have e : (WD.alloc (.cells #[] 3)).heap.size = WD.heap.size + 1 := by simp
        rw [e] at h; exact h
      have HO9 := Lib.hid ho9
      have HV9 := Lib.hid hv9
      have B9 := Lib.hid hb9
      have S9 := Lib.hid (show w.heap.size + 1 + 1 ≤ w9.heap.size by omega)
      refine hK.out _ _ hb9 (fun hHeld => ?_)
      clear hK K hown9 hg9 hN0 hbx hsx hv9 hb9 hs9
      try simp only [List.getElem_toArray, List.getElem_cons_succ, List.getElem_cons_zero, Act.put, List.setIfInBounds_toArray, List.set_cons_zero, List.set_cons_succ]
      refine wpAnyH_take (i := 10) (v := Value.agg #[.int .i64 k, .string t, .slice vo ms.length vc, .slice none 0 0, .int .i64 q]) rfl (by kernel_rfl) (by kernel_rfl) (by kernel_rfl) (fun _ _ _ h => h) (Or.inl ⟨rfl, fun w' hw' => ?_⟩) hHeld ?_
      · go_simp
      simp only [List.getElem_toArray, List.getElem_cons_succ, List.getElem_cons_zero, Act.put, List.setIfInBounds_toArray, List.set_cons_zero, List.set_cons_succ]
      refine wpAnyH_ready (rs := [12]) (by kernel_rfl) (by simp) ?_
      refine (AllReadyH.cons rfl (fun K hK => ?_) AllReadyH.nil)
      rw [if_pos (by rfl)]
      have hob := HO9.out
      obtain ⟨f1, f2, f3, f4, f5, f6, f7⟩ := copy_fin (k := k) (t := t) (q := q) (v := .slice vo ms.length vc) (ob := WD.heap.size + 1) BB1.out HS1.out G0.out G1.out B9.out hob (by have := HSD.out; have := S9.out; omega) HV9.out
      refine wp_store_row 28 _ _ rfl (WD.heap.size + 1) #[.int .i64 k, .string t, .slice vo ms.length vc, .slice none 0 0, .int .i64 q] rfl rfl 28 Z5 hob info28 rfl (by simp [Value.oneCell']) ?_
      refine hK.out _ _ f1 (fun hHeld => ?_)
      clear hK K
      try simp only [List.getElem_toArray, List.getElem_cons_succ, List.getElem_cons_zero, Act.put, List.setIfInBounds_toArray, List.set_cons_zero, List.set_cons_succ]
      refine wpAnyH_done (by kernel_rfl) ?_ _
      refine NoPanic.normal ?_
      clear hHeld
      exact REST.out _ _ _ _ _ _ _ _ _ _ _ _ _ _ _ _ _ _ _ _ _ _ _ _ _ _ _ _ _ _ _ _ (WD.heap.size + 1) (.slice vo ms.length vc) (by have := HSD.out; have := S9.out; omega) f2 f3 f4 f5 f6 f7
  · skip
    go_simp
    refine hK.out _ _ (hHeld.alloc (by have := HSD.out; simp; omega) _) (fun hHeld => ?_)
    clear hK K
    try simp only [List.getElem_toArray, List.getElem_cons_succ, List.getElem_cons_zero, Act.put, List.setIfInBounds_toArray, List.set_cons_zero, List.set_cons_succ]
    refine wpAnyH_ready (rs := [4]) (by kernel_rfl) (by simp) ?_
    refine (AllReadyH.cons rfl (fun K hK => ?_) AllReadyH.nil)
    go_simp
    refine hK.out _ _ (hHeld.alloc (by have := HSD.out; simp; omega) _) (fun hHeld => ?_)
    clear hK K
    try simp only [List.getElem_toArray, List.getElem_cons_succ, List.getElem_cons_zero, Act.put, List.setIfInBounds_toArray, List.set_cons_zero, List.set_cons_succ]
    refine wpAnyH_ready (rs := [7]) (by kernel_rfl) (by simp) ?_
    refine (AllReadyH.cons rfl (fun K hK => ?_) AllReadyH.nil)
    rw [if_pos (by rfl)]
    have hN0 : Nums (w.heap.size + 1 + 1) ((WD.alloc (.cells Z5 28)).alloc (.cells #[] 3)) (.slice (some ⟨WD.heap.size + 1, 0, none⟩) 0 0) [] := by have h := Nums.none (WD.alloc (.cells Z5 28)) (w.heap.size + 1 + 1) (by have := HSD.out; simp; omega); simpa using h
    have hbx : Below (w.heap.size + 1 + 1) W1 ((WD.alloc (.cells Z5 28)).alloc (.cells #[] 3)) := hHeld
    have hsx : w.heap.size + 1 + 1 ≤ ((WD.alloc (.cells Z5 28)).alloc (.cells #[] 3)).heap.size := by have := HSD.out; simp; try omega
    refine wp_appI (Operand.tmp 9) (Operand.tmp 11) rfl (w.heap.size + 1 + 1) (.slice (some ⟨WD.heap.size + 1, 0, none⟩) 0 0) [] ms rfl hN0 mo ms.length mc (by rw [← HMV.out]; rfl) (SRC.out.below (by rw [HS1.out]; exact hbx)) (by simpa using hms) hsx ?_
    intro v w9 hown9 hg9
    have hb9 : Below (w.heap.size + 1 + 1) W1 w9 := nums_app hbx hN0 hsx hg9
    rw [List.nil_append] at hown9
    obtain ⟨vo, vc, rfl⟩ := nums_form hown9
    have hv9 : MAt (fun x => w.heap.size + 1 < x) w9 (.slice vo ms.length vc) ms := (hown9.at hms).mono (fun x hx => by have : w.heap.size + 1 + 1 ≤ x := hx; omega)
    have hv1 := hv9.one
    have hs9 : w.heap.size + 1 + 1 ≤ w9.heap.size := Nat.le_trans hsx hg9.size
    have ho9 : w9.heap[WD.heap.size]? = some (.cells Z5 28 (0, 0)) := by
      rw [hg9.block _ (by simp; omega) (by simp [Value.ownBlock])]
      exact (Lib.alloc_old _ _ _ (by simp)).trans (alloc_at WD _)
    have HO9 := Lib.hid ho9
    have HV9 := Lib.hid hv9
    have B9 := Lib.hid hb9
    have S9 := Lib.hid (show w.heap.size + 1 + 1 ≤ w9.heap.size by omega)
    refine hK.out _ _ hb9 (fun hHeld => ?_)
    clear hK K hown9 hg9 hN0 hbx hsx hv9 hb9 hs9
    try simp only [List.getElem_toArray, List.getElem_cons_succ, List.getElem_cons_zero, Act.put, List.setIfInBounds_toArray, List.set_cons_zero, List.set_cons_succ]
    refine wpAnyH_take (i := 10) (v := Value.agg #[.int .i64 k, .string t, .slice vo ms.length vc, .slice none 0 0, .int .i64 q]) rfl (by kernel_rfl) (by kernel_rfl) (by kernel_rfl) (fun _ _ _ h => h) (Or.inl ⟨rfl, fun w' hw' => ?_⟩) hHeld ?_
    · go_simp
    simp only [List.getElem_toArray, List.getElem_cons_succ, List.getElem_cons_zero, Act.put, List.setIfInBounds_toArray, List.set_cons_zero, List.set_cons_succ]
    refine wpAnyH_ready (rs := [12]) (by kernel_rfl) (by simp) ?_
    refine (AllReadyH.cons rfl (fun K hK => ?_) AllReadyH.nil)
    rw [if_pos (by rfl)]
    have hob := HO9.out
    obtain ⟨f1, f2, f3, f4, f5, f6, f7⟩ := copy_fin (k := k) (t := t) (q := q) (v := .slice vo ms.length vc) (ob := WD.heap.size) BB1.out HS1.out G0.out G1.out B9.out hob (by have := HSD.out; have := S9.out; omega) HV9.out
    refine wp_store_row 28 _ _ rfl (WD.heap.size) #[.int .i64 k, .string t, .slice vo ms.length vc, .slice none 0 0, .int .i64 q] rfl rfl 28 Z5 hob info28 rfl (by simp [Value.oneCell']) ?_
    refine hK.out _ _ f1 (fun hHeld => ?_)
    clear hK K
    try simp only [List.getElem_toArray, List.getElem_cons_succ, List.getElem_cons_zero, Act.put, List.setIfInBounds_toArray, List.set_cons_zero, List.set_cons_succ]
    refine wpAnyH_done (by kernel_rfl) ?_ _
    refine NoPanic.normal ?_
    clear hHeld
    exact REST.out _ _ _ _ _ _ _ _ _ _ _ _ _ _ _ _ _ _ _ _ _ _ _ _ _ _ _ _ _ _ _ _ (WD.heap.size) (.slice vo ms.length vc) (by have := HSD.out; have := S9.out; omega) f2 f3 f4 f5 f6 f7

theorem copy_any (N : Nat) : N ≤ 1000000 → ∀ (d : Dt), d.size ≤ N → ∀ (S : Nat → Prop) (cs : Array Value) (w : World), Dt.At S w d cs → Calls Try.prog 26 #[.agg cs] w (RetCp d w) := by
  induction N with
  | zero => intro _ d hd; cases d; simp [Dt.size] at hd
  | succ N ih =>
    intro hN d hd S cs w hat
    obtain ⟨k, t, ms, l, q⟩ := d
    rw [At_mk] at hat
    obtain ⟨mv, lv, rfl, hm, hl⟩ := hat
    obtain ⟨lo, lc, rfl⟩ := hl.form
    exact copy_list N (by omega) (ih (by omega)) k t ms l q (by simp only [Dt.size] at hd; omega) mv lo lc S w hm hl
end Go.Proofs.Ytlkpddokmibkiaa
