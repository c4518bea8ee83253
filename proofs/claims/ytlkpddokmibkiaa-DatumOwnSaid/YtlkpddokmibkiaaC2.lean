/- thunkref2.Plain, at any datum. -/
import Derived.Test.YtlkpddokmibkiaaC1
namespace Go.Proofs.Ytlkpddokmibkiaa
open Go.RowKit
set_option linter.unusedVariables false
set_option linter.unusedSimpArgs false

set_option maxHeartbeats 4000000 in
theorem refplain_list (N : Nat) (hN : N ≤ 1000000) (ih : ∀ (d : Dt), d.size ≤ N → ∀ (S : Nat → Prop) (cs : Array Value) (w : World), Dt.At S w d cs → Calls Try.prog 16 #[.agg cs] w (RetMk d.plain w))
    (k : Int) (t : ByteArray) (l : List Dt) (q : Int) (hsz : Dt.sizes l ≤ N) (mv : Value) (hm1 : mv.oneCell' = true) (lo : Option Addr) (lc : Nat) (S : Nat → Prop) (w : World) (hL : LAt S w (.slice lo l.length lc) l) :
    Calls Try.prog 16 #[.agg #[.int .i64 k, .string t, mv, .slice lo l.length lc, .int .i64 q]] w (RetMk (.mk k t [] (Dt.plains l) q) w) := by
  have IH := Lib.hid ih
  have HL := Lib.hid hL
  have HZ := Lib.hid hsz
  clear ih hL hsz
  go_enter Try.func16, Try.ntmps16
  obtain ⟨W1, hW1⟩ : ∃ W1, W1 = ((w.alloc (.cells #[.int .i64 k, .string t, mv, .slice lo l.length lc, .int .i64 q] 28)).alloc (.cells Z5 28)).alloc (.cells Z5 28) := ⟨_, rfl⟩
  go_wp2_with (first | (refine wpList_store_row rfl 28 _ _ rfl (w.heap.size + 1 + 1) #[.int .i64 k, .string t, .slice none 0 0, .slice none 0 0, .int .i64 q] rfl rfl 28 Z5 (by have := alloc_at ((w.alloc (.cells #[.int .i64 k, .string t, mv, .slice lo l.length lc, .int .i64 q] 28)).alloc (.cells Z5 28)) (.cells Z5 28); simp only [World.heap_size_alloc] at this; exact this) info28 rfl (by simp [Value.oneCell']) ?_))
  clear hW1 W1
  have h3 : (((w.alloc (.cells #[.int .i64 k, .string t, mv, .slice lo l.length lc, .int .i64 q] 28)).alloc (.cells Z5 28)).alloc (.cells Z5 28)).setRow (w.heap.size + 1 + 1) #[.int .i64 k, .string t, .slice none 0 0, .slice none 0 0, .int .i64 q] = (((w.alloc (.cells #[.int .i64 k, .string t, mv, .slice lo l.length lc, .int .i64 q] 28)).alloc (.cells Z5 28)).alloc (.cells #[.int .i64 k, .string t, .slice none 0 0, .slice none 0 0, .int .i64 q] 28)) := setRow_new_at _ _ _ _ _ (by simp)
  try simp only [Z5] at h3
  try rw [h3]
  clear h3
  have R5 : Hid (((((w.alloc (.cells #[.int .i64 k, .string t, mv, .slice lo l.length lc, .int .i64 q] 28)).alloc (.cells Z5 28)).alloc (.cells #[.int .i64 k, .string t, .slice none 0 0, .slice none 0 0, .int .i64 q] 28))).heap[w.heap.size]? = some (.cells #[.int .i64 k, .string t, mv, .slice lo l.length lc, .int .i64 q] 28 (0, 0))) := (Lib.alloc_old _ _ _ (by simp; omega)).trans ((Lib.alloc_old _ _ _ (by simp)).trans (alloc_at w _))
  have Z5H : Hid (((((w.alloc (.cells #[.int .i64 k, .string t, mv, .slice lo l.length lc, .int .i64 q] 28)).alloc (.cells Z5 28)).alloc (.cells #[.int .i64 k, .string t, .slice none 0 0, .slice none 0 0, .int .i64 q] 28))).heap[w.heap.size + 1]? = some (.cells Z5 28 (0, 0))) := (Lib.alloc_old _ _ _ (by simp)).trans (second_at w _ _)
  have O5 : Hid (((((w.alloc (.cells #[.int .i64 k, .string t, mv, .slice lo l.length lc, .int .i64 q] 28)).alloc (.cells Z5 28)).alloc (.cells #[.int .i64 k, .string t, .slice none 0 0, .slice none 0 0, .int .i64 q] 28))).heap[w.heap.size + 1 + 1]? = some (.cells #[.int .i64 k, .string t, .slice none 0 0, .slice none 0 0, .int .i64 q] 28 (0, 0))) := by
    have h := alloc_at ((w.alloc (.cells #[.int .i64 k, .string t, mv, .slice lo l.length lc, .int .i64 q] 28)).alloc (.cells Z5 28)) (.cells #[.int .i64 k, .string t, .slice none 0 0, .slice none 0 0, .int .i64 q] 28)
    have e : ((w.alloc (.cells #[.int .i64 k, .string t, mv, .slice lo l.length lc, .int .i64 q] 28)).alloc (.cells Z5 28)).heap.size = w.heap.size + 1 + 1 := by simp
    rw [e] at h; exact h
  have U5 := Lib.hid ((((Below.refl w.heap.size w).alloc (Nat.le_refl _) (.cells #[.int .i64 k, .string t, mv, .slice lo l.length lc, .int .i64 q] 28)).alloc (by simp) (.cells Z5 28)).alloc (by simp; omega) (.cells #[.int .i64 k, .string t, .slice none 0 0, .slice none 0 0, .int .i64 q] 28))
  have S5 : Hid (w.heap.size + 1 + 1 < ((((w.alloc (.cells #[.int .i64 k, .string t, mv, .slice lo l.length lc, .int .i64 q] 28)).alloc (.cells Z5 28)).alloc (.cells #[.int .i64 k, .string t, .slice none 0 0, .slice none 0 0, .int .i64 q] 28))).heap.size) := by show _ < _; simp
  change Code.wp Try.prog _ _ _ (((w.alloc (.cells #[.int .i64 k, .string t, mv, .slice lo l.length lc, .int .i64 q] 28)).alloc (.cells Z5 28)).alloc (.cells #[.int .i64 k, .string t, .slice none 0 0, .slice none 0 0, .int .i64 q] 28))
  generalize (((w.alloc (.cells #[.int .i64 k, .string t, mv, .slice lo l.length lc, .int .i64 q] 28)).alloc (.cells Z5 28)).alloc (.cells #[.int .i64 k, .string t, .slice none 0 0, .slice none 0 0, .int .i64 q] 28)) = W5 at R5 Z5H O5 U5 S5 ⊢
  obtain ⟨ob, hobe⟩ : ∃ ob, ob = w.heap.size + 1 + 1 := ⟨_, rfl⟩
  rw [← hobe] at O5 S5 ⊢
  have HOB := Lib.hid (show w.heap.size + 1 < ob by omega)
  have VM : Hid (MAt (fun x => w.heap.size + 1 < x ∧ x ≠ ob) W5 (.slice none 0 0) []) := .inl ⟨rfl, rfl⟩
  clear hobe
  go_loopw [4] (fun iv wr => LInv3 Dt.plains l ob k t (.slice none 0 0) q W5 iv wr) (fun iv _ => l.length - (intOf iv).toNat)
  case atStart => exact ⟨0, .slice none 0 0, Nat.zero_le _, rfl, O5.out, OwnD.nil _ _, Hole.refl _ _ _ _⟩
  case round =>
    obtain ⟨j, v2, hj, rfl, ho, hown, hh⟩ := hrel
    have hll := length_sizes l
    have hl1 : l.length ≤ 1000000 := by have := HZ.out; omega
    have hsz5 := S5.out
    have hob := HOB.out
    have r2 : wr.heap[w.heap.size]? = some (.cells #[.int .i64 k, .string t, mv, .slice lo l.length lc, .int .i64 q] 28 (0, 0)) := by rw [hh.block _ (by omega) (by omega) (by omega)]; exact R5.out
    have z2 : wr.heap[w.heap.size + 1]? = some (.cells Z5 28 (0, 0)) := by rw [hh.block _ (by omega) (by omega) (by omega)]; exact Z5H.out
    have cr : wr.cell? ⟨w.heap.size, 3, none⟩ = some (.slice lo l.length lc) := by rw [Lib.cell_of_heap r2]; rfl
    have hbw : Below w.heap.size w wr := by
      have h := hh.to (B' := w.heap.size) (by omega) (by omega)
      exact U5.out.trans ⟨h.os, h.tape, h.output, h.size, fun k hk => h.block k hk (by omega)⟩
    have HO := Lib.hid ho
    have OW := Lib.hid hown
    have HH := Lib.hid hh
    have R2 := Lib.hid r2
    have Z2 := Lib.hid z2
    have CR := Lib.hid cr
    have BW := Lib.hid hbw
    clear ho hown hh r2 z2 hbw hll
    by_cases hlt : j < l.length
    · have q1 : decide ((j : Int) < (l.length : Int)) = true := decide_eq_true (by omega)
      obtain ⟨b, o, k', t', mv', lv', p', rfl, hS, ⟨bc, bfz, hbh⟩, hat, e0, e1, e2, e3, e4, o1, o2⟩ := HL.out.get j hlt
      have hbl : b < w.heap.size := (Array.getElem?_eq_some_iff.1 hbh).1
      have hsj := size_get l j hlt
      have E0 := Lib.hid e0
      have E1 := Lib.hid e1
      have E2 := Lib.hid e2
      have E3 := Lib.hid e3
      have E4 := Lib.hid e4
      have HAT := Lib.hid hat
      clear e0 e1 e2 e3 e4 hat hbh hS
      go_upto_region 5 with fail
      clear cr
      obtain ⟨WD, hWD⟩ : ∃ WD, WD = wr.drew := ⟨_, rfl⟩
      have bd : Below wr.heap.size wr WD := by rw [hWD]; exact (Below.refl _ _).drew
      have hsd : WD.heap.size = wr.heap.size := by rw [hWD]; rfl
      have BD := Lib.hid bd
      have SD := Lib.hid hsd
      have hso : ob < wr.heap.size := by have := HH.out.size; omega
      have CO' := Lib.hid (show WD.cell? ⟨ob, 3, none⟩ = some v2 by rw [BD.out.cell (p := ⟨ob, 3, none⟩) (by show ob < _; omega), Lib.cell_of_heap HO.out]; rfl)
      have bwd : Below w.heap.size w WD := BW.out.trans (bd.mono BW.out.size)
      have HX := Lib.hid (IH.out l[j] (by have := HZ.out; omega) _ #[.int .i64 k', .string t', mv', lv', .int .i64 p'] WD (Dt.At.keeps (Keeps.of_below bwd) _ _ HAT.out))
      refine wp_region_noPanic ?_
      refine wp_region_held_drew (S := But W5.heap.size ob wr) (by kernel_rfl) ((But.refl _ _ _).drew) (fun hHeld => ?_)
      rw [← hWD] at hHeld ⊢
      have hw5 := U5.out.size
      clear bd hWD hsd bwd
      refine wpAnyH_take (i := 0) (v := Value.pointer (some ⟨ob, 3, none⟩)) rfl (by kernel_rfl) (by kernel_rfl) (by kernel_rfl) (fun _ _ _ h => h) (Or.inl ⟨rfl, fun w' hw' => ?_⟩) hHeld ?_
      · go_simp
      simp only [List.getElem_toArray, List.getElem_cons_succ, List.getElem_cons_zero, Act.put, List.setIfInBounds_toArray, List.set_cons_zero, List.set_cons_succ]
      refine wpAnyH_take (i := 2) (v := Value.pointer (some ⟨w.heap.size, 3, none⟩)) rfl (by kernel_rfl) (by kernel_rfl) (by kernel_rfl) (fun _ _ _ h => h) (Or.inl ⟨rfl, fun w' hw' => ?_⟩) hHeld ?_
      · go_simp
      simp only [List.getElem_toArray, List.getElem_cons_succ, List.getElem_cons_zero, Act.put, List.setIfInBounds_toArray, List.set_cons_zero, List.set_cons_succ]
      refine wpAnyH_take (i := 3) (v := Value.slice (some ⟨b, o, none⟩) l.length lc) rfl (by kernel_rfl) (by kernel_rfl) (by kernel_rfl) (fun _ _ _ h => h) (Or.inl ⟨rfl, fun w' hw' => ?_⟩) hHeld ?_
      · have c := (hw'.cell (p := ⟨w.heap.size, 3, none⟩) (by show w.heap.size < _; omega) (by show w.heap.size ≠ _; omega)).trans CR.out; go_simp
      simp only [List.getElem_toArray, List.getElem_cons_succ, List.getElem_cons_zero, Act.put, List.setIfInBounds_toArray, List.set_cons_zero, List.set_cons_succ]
      refine wpAnyH_take (i := 4) (v := Value.int .i64 j) rfl (by kernel_rfl) (by kernel_rfl) (by kernel_rfl) (fun _ _ _ h => h) (Or.inl ⟨rfl, fun w' hw' => ?_⟩) hHeld ?_
      · go_simp
      simp only [List.getElem_toArray, List.getElem_cons_succ, List.getElem_cons_zero, Act.put, List.setIfInBounds_toArray, List.set_cons_zero, List.set_cons_succ]
      refine wpAnyH_take (i := 5) (v := Value.pointer (some ⟨b, o + j * 5, none⟩)) rfl (by kernel_rfl) (by kernel_rfl) (by kernel_rfl) (fun _ _ _ h => h) (Or.inl ⟨rfl, fun w' hw' => ?_⟩) hHeld ?_
      · go_simp
      simp only [List.getElem_toArray, List.getElem_cons_succ, List.getElem_cons_zero, Act.put, List.setIfInBounds_toArray, List.set_cons_zero, List.set_cons_succ]
      refine wpAnyH_take (i := 6) rfl (by kernel_rfl) (by kernel_rfl) (by kernel_rfl) (fun _ _ _ h => h) (yieldsIf_load_mid (by rfl) _ _ rfl b (o + j * 5) rfl [.int .i64 k', .string t', mv', lv', .int .i64 p'] _ (fun w' hw' => range5 (fun a ha hb => (hw'.cell (by omega) (by rw [ha]; omega)).trans (BW.out.cell (by omega))) hbl E0.out E1.out E2.out E3.out E4.out) Try.underlying28 rfl info28) hHeld ?_
      simp only [List.getElem_toArray, List.getElem_cons_succ, List.getElem_cons_zero, Act.put, List.setIfInBounds_toArray, List.set_cons_zero, List.set_cons_succ]
      refine wpAnyH_ready (rs := [1, 7]) (by kernel_rfl) (by simp) ?_
      refine (AllReadyH.cons rfl (fun K hK => ?_) (AllReadyH.cons rfl (fun K hK => ?_) AllReadyH.nil))
      · skip
        have c45 := CO'.out
        go_simp
        refine hK.out _ _ hHeld (fun hHeld => ?_)
        clear hK K c45
        try simp only [List.getElem_toArray, List.getElem_cons_succ, List.getElem_cons_zero, Act.put, List.setIfInBounds_toArray, List.set_cons_zero, List.set_cons_succ]
        refine wpAnyH_ready (rs := [7]) (by kernel_rfl) (by simp) ?_
        refine (AllReadyH.cons rfl (fun K hK => ?_) AllReadyH.nil)
        go_simp
        refine HX.out.mono ?_
        rintro e w7 ⟨cs, rfl, hat, hb⟩
        obtain ⟨k5, t5, mv5, lv5, p5, rfl, o3, o4⟩ := At_form hat
        obtain ⟨xs, hown8, hz8, hS7, hS8, c7, c8, hnx⟩ := part_more3 (fs := Dt.plains) (f := Dt.plain) hlt hl1 hsz5 (by rw [plains_length, List.length_take]; omega) (plains_take l j hlt) HO.out OW.out HH.out BD.out SD.out hat hb rfl
        have HN := Lib.hid hnx
        have HO8 := Lib.hid hown8
        have HS8 := Lib.hid hS8
        have C7 := Lib.hid c7
        have C8 := Lib.hid c8
        refine hK.out _ _ hS7 (fun hHeld => ?_)
        clear hK K hat hb hown8 hnx hS7 hS8 c7 c8
        try simp only [List.getElem_toArray, List.getElem_cons_succ, List.getElem_cons_zero, Act.put, List.setIfInBounds_toArray, List.set_cons_zero, List.set_cons_succ]
        refine wpAnyH_ready (rs := [8]) (by kernel_rfl) (by simp) ?_
        refine (AllReadyH.cons rfl (fun K hK => ?_) AllReadyH.nil)
        go_simp
        refine hK.out _ _ HS8.out (fun hHeld => ?_)
        clear hK K
        try simp only [List.getElem_toArray, List.getElem_cons_succ, List.getElem_cons_zero, Act.put, List.setIfInBounds_toArray, List.set_cons_zero, List.set_cons_succ]
        refine wpAnyH_ready (rs := [9]) (by kernel_rfl) (by simp) ?_
        refine (AllReadyH.cons rfl (fun K hK => ?_) AllReadyH.nil)
        rw [if_pos (by rfl)]
        refine wp_app (Operand.tmp 20) (Operand.tmp 27) rfl W5.heap.size v2 j xs rfl HO8.out w7.heap.size 1 rfl [.int .i64 k5, .string t5, mv5, lv5, .int .i64 p5] rfl (fun i u hu => ?_) (by simp; exact ⟨rfl, rfl, o3, o4, rfl⟩) (by omega) hz8 ?_
        · rw [Lib.cell_of_heap (alloc_at w7 (.cells #[.int .i64 k5, .string t5, mv5, lv5, .int .i64 p5] 28))]; simpa using hu
        intro v' w9 hown9 hg9 hv9
        obtain ⟨so, sn, sc, rfl⟩ := own_form hown9
        obtain ⟨hS9, cc, cf, hS10, hM⟩ := HN.out _ w9 hown9 hg9 hv9
        have HM := Lib.hid hM
        have HS10 := Lib.hid hS10
        have CC := Lib.hid cc
        have CF := Lib.hid cf
        refine hK.out _ _ hS9 (fun hHeld => ?_)
        clear hK K hown9 hg9 hv9 hS10 hM HN HO8 hS9 cc cf
        try simp only [List.getElem_toArray, List.getElem_cons_succ, List.getElem_cons_zero, Act.put, List.setIfInBounds_toArray, List.set_cons_zero, List.set_cons_succ]
        refine wpAnyH_take (i := 10) (v := Value.pointer (some ⟨ob, 3, none⟩)) rfl (by kernel_rfl) (by kernel_rfl) (by kernel_rfl) (fun _ _ _ h => h) (Or.inl ⟨rfl, fun w' hw' => ?_⟩) hHeld ?_
        · go_simp
        simp only [List.getElem_toArray, List.getElem_cons_succ, List.getElem_cons_zero, Act.put, List.setIfInBounds_toArray, List.set_cons_zero, List.set_cons_succ]
        refine wpAnyH_ready (rs := [11]) (by kernel_rfl) (by simp) ?_
        refine (AllReadyH.cons rfl (fun K hK => ?_) AllReadyH.nil)
        have cc := CC.out
        have cf := CF.out
        go_simp
        refine hK.out _ _ HS10.out (fun hHeld => ?_)
        clear hK K cc cf
        try simp only [List.getElem_toArray, List.getElem_cons_succ, List.getElem_cons_zero, Act.put, List.setIfInBounds_toArray, List.set_cons_zero, List.set_cons_succ]
        refine wpAnyH_done (by kernel_rfl) ?_ _
        refine NoPanic.normal ?_
        clear hHeld
        go_wp2_with fail
        go_roundw
        case rel => exact HM.out
        case measure => simp [intOf]; omega
      · skip
        go_simp
        refine HX.out.mono ?_
        rintro e w7 ⟨cs, rfl, hat, hb⟩
        obtain ⟨k5, t5, mv5, lv5, p5, rfl, o3, o4⟩ := At_form hat
        obtain ⟨xs, hown8, hz8, hS7, hS8, c7, c8, hnx⟩ := part_more3 (fs := Dt.plains) (f := Dt.plain) hlt hl1 hsz5 (by rw [plains_length, List.length_take]; omega) (plains_take l j hlt) HO.out OW.out HH.out BD.out SD.out hat hb rfl
        have HN := Lib.hid hnx
        have HO8 := Lib.hid hown8
        have HS8 := Lib.hid hS8
        have C7 := Lib.hid c7
        have C8 := Lib.hid c8
        refine hK.out _ _ hS7 (fun hHeld => ?_)
        clear hK K hat hb hown8 hnx hS7 hS8 c7 c8
        try simp only [List.getElem_toArray, List.getElem_cons_succ, List.getElem_cons_zero, Act.put, List.setIfInBounds_toArray, List.set_cons_zero, List.set_cons_succ]
        refine wpAnyH_ready (rs := [1, 8]) (by kernel_rfl) (by simp) ?_
        refine (AllReadyH.cons rfl (fun K hK => ?_) (AllReadyH.cons rfl (fun K hK => ?_) AllReadyH.nil))
        · skip
          have c45 := C7.out
          go_simp
          refine hK.out _ _ hHeld (fun hHeld => ?_)
          clear hK K c45
          try simp only [List.getElem_toArray, List.getElem_cons_succ, List.getElem_cons_zero, Act.put, List.setIfInBounds_toArray, List.set_cons_zero, List.set_cons_succ]
          refine wpAnyH_ready (rs := [8]) (by kernel_rfl) (by simp) ?_
          refine (AllReadyH.cons rfl (fun K hK => ?_) AllReadyH.nil)
          go_simp
          refine hK.out _ _ HS8.out (fun hHeld => ?_)
          clear hK K
          try simp only [List.getElem_toArray, List.getElem_cons_succ, List.getElem_cons_zero, Act.put, List.setIfInBounds_toArray, List.set_cons_zero, List.set_cons_succ]
          refine wpAnyH_ready (rs := [9]) (by kernel_rfl) (by simp) ?_
          refine (AllReadyH.cons rfl (fun K hK => ?_) AllReadyH.nil)
          rw [if_pos (by rfl)]
          refine wp_app (Operand.tmp 20) (Operand.tmp 27) rfl W5.heap.size v2 j xs rfl HO8.out w7.heap.size 1 rfl [.int .i64 k5, .string t5, mv5, lv5, .int .i64 p5] rfl (fun i u hu => ?_) (by simp; exact ⟨rfl, rfl, o3, o4, rfl⟩) (by omega) hz8 ?_
          · rw [Lib.cell_of_heap (alloc_at w7 (.cells #[.int .i64 k5, .string t5, mv5, lv5, .int .i64 p5] 28))]; simpa using hu
          intro v' w9 hown9 hg9 hv9
          obtain ⟨so, sn, sc, rfl⟩ := own_form hown9
          obtain ⟨hS9, cc, cf, hS10, hM⟩ := HN.out _ w9 hown9 hg9 hv9
          have HM := Lib.hid hM
          have HS10 := Lib.hid hS10
          have CC := Lib.hid cc
          have CF := Lib.hid cf
          refine hK.out _ _ hS9 (fun hHeld => ?_)
          clear hK K hown9 hg9 hv9 hS10 hM HN HO8 hS9 cc cf
          try simp only [List.getElem_toArray, List.getElem_cons_succ, List.getElem_cons_zero, Act.put, List.setIfInBounds_toArray, List.set_cons_zero, List.set_cons_succ]
          refine wpAnyH_take (i := 10) (v := Value.pointer (some ⟨ob, 3, none⟩)) rfl (by kernel_rfl) (by kernel_rfl) (by kernel_rfl) (fun _ _ _ h => h) (Or.inl ⟨rfl, fun w' hw' => ?_⟩) hHeld ?_
          · go_simp
          simp only [List.getElem_toArray, List.getElem_cons_succ, List.getElem_cons_zero, Act.put, List.setIfInBounds_toArray, List.set_cons_zero, List.set_cons_succ]
          refine wpAnyH_ready (rs := [11]) (by kernel_rfl) (by simp) ?_
          refine (AllReadyH.cons rfl (fun K hK => ?_) AllReadyH.nil)
          have cc := CC.out
          have cf := CF.out
          go_simp
          refine hK.out _ _ HS10.out (fun hHeld => ?_)
          clear hK K cc cf
          try simp only [List.getElem_toArray, List.getElem_cons_succ, List.getElem_cons_zero, Act.put, List.setIfInBounds_toArray, List.set_cons_zero, List.set_cons_succ]
          refine wpAnyH_done (by kernel_rfl) ?_ _
          refine NoPanic.normal ?_
          clear hHeld
          go_wp2_with fail
          go_roundw
          case rel => exact HM.out
          case measure => simp [intOf]; omega
        · skip
          go_simp
          refine hK.out _ _ HS8.out (fun hHeld => ?_)
          clear hK K
          try simp only [List.getElem_toArray, List.getElem_cons_succ, List.getElem_cons_zero, Act.put, List.setIfInBounds_toArray, List.set_cons_zero, List.set_cons_succ]
          refine wpAnyH_ready (rs := [1]) (by kernel_rfl) (by simp) ?_
          refine (AllReadyH.cons rfl (fun K hK => ?_) AllReadyH.nil)
          have c45 := C8.out
          go_simp
          refine hK.out _ _ hHeld (fun hHeld => ?_)
          clear hK K c45
          try simp only [List.getElem_toArray, List.getElem_cons_succ, List.getElem_cons_zero, Act.put, List.setIfInBounds_toArray, List.set_cons_zero, List.set_cons_succ]
          refine wpAnyH_ready (rs := [9]) (by kernel_rfl) (by simp) ?_
          refine (AllReadyH.cons rfl (fun K hK => ?_) AllReadyH.nil)
          rw [if_pos (by rfl)]
          refine wp_app (Operand.tmp 20) (Operand.tmp 27) rfl W5.heap.size v2 j xs rfl HO8.out w7.heap.size 1 rfl [.int .i64 k5, .string t5, mv5, lv5, .int .i64 p5] rfl (fun i u hu => ?_) (by simp; exact ⟨rfl, rfl, o3, o4, rfl⟩) (by omega) hz8 ?_
          · rw [Lib.cell_of_heap (alloc_at w7 (.cells #[.int .i64 k5, .string t5, mv5, lv5, .int .i64 p5] 28))]; simpa using hu
          intro v' w9 hown9 hg9 hv9
          obtain ⟨so, sn, sc, rfl⟩ := own_form hown9
          obtain ⟨hS9, cc, cf, hS10, hM⟩ := HN.out _ w9 hown9 hg9 hv9
          have HM := Lib.hid hM
          have HS10 := Lib.hid hS10
          have CC := Lib.hid cc
          have CF := Lib.hid cf
          refine hK.out _ _ hS9 (fun hHeld => ?_)
          clear hK K hown9 hg9 hv9 hS10 hM HN HO8 hS9 cc cf
          try simp only [List.getElem_toArray, List.getElem_cons_succ, List.getElem_cons_zero, Act.put, List.setIfInBounds_toArray, List.set_cons_zero, List.set_cons_succ]
          refine wpAnyH_take (i := 10) (v := Value.pointer (some ⟨ob, 3, none⟩)) rfl (by kernel_rfl) (by kernel_rfl) (by kernel_rfl) (fun _ _ _ h => h) (Or.inl ⟨rfl, fun w' hw' => ?_⟩) hHeld ?_
          · go_simp
          simp only [List.getElem_toArray, List.getElem_cons_succ, List.getElem_cons_zero, Act.put, List.setIfInBounds_toArray, List.set_cons_zero, List.set_cons_succ]
          refine wpAnyH_ready (rs := [11]) (by kernel_rfl) (by simp) ?_
          refine (AllReadyH.cons rfl (fun K hK => ?_) AllReadyH.nil)
          have cc := CC.out
          have cf := CF.out
          go_simp
          refine hK.out _ _ HS10.out (fun hHeld => ?_)
          clear hK K cc cf
          try simp only [List.getElem_toArray, List.getElem_cons_succ, List.getElem_cons_zero, Act.put, List.setIfInBounds_toArray, List.set_cons_zero, List.set_cons_succ]
          refine wpAnyH_done (by kernel_rfl) ?_ _
          refine NoPanic.normal ?_
          clear hHeld
          go_wp2_with fail
          go_roundw
          case rel => exact HM.out
          case measure => simp [intOf]; omega
    · obtain rfl : j = l.length := by omega
      have q1 : decide ((l.length : Int) < (l.length : Int)) = false := decide_eq_false (by omega)
      have hO' := OW.out
      rw [List.take_length] at hO'
      have OW' := Lib.hid hO'
      have hv1 := VM.out.one
      clear hO' OW hlt
      go_wp2_with (first | (refine wpList_load_row rfl 28 _ rfl ob rfl 28 #[.int .i64 k, .string t, .slice none 0 0, v2, .int .i64 q] (0, 0) _ HO.out Try.underlying28 rfl info28 ?_) | (refine wpList_store_row rfl 28 _ _ rfl (w.heap.size + 1) #[.int .i64 k, .string t, .slice none 0 0, v2, .int .i64 q] rfl rfl 28 Z5 Z2.out info28 rfl (by simp [Value.oneCell'] at hv1 ⊢; first | exact ⟨hv1, OW'.out.at.one⟩ | exact OW'.out.at.one) ?_))
      refine bodyPost_ret (results_cell_row rfl _ _ (w.heap.size + 1) 28 #[.int .i64 k, .string t, .slice none 0 0, v2, .int .i64 q] (0, 0) _ rfl (setRow_heap wr _ _ _ 28 _ Z2.out) Try.underlying28 rfl info28) rfl ?_
      have hs2 := HH.out.size
      have kp : ∀ S : Nat → Prop, (∀ x, S x → w.heap.size + 1 < x) → Keeps S wr (wr.setRow (w.heap.size + 1) #[.int .i64 k, .string t, .slice none 0 0, v2, .int .i64 q]) := by
        intro S hS x c T fz hx hg _
        exact ⟨fz, by rw [setRow_other wr _ x _ (by have := hS x hx; omega)]; exact hg⟩
      refine ⟨_, rfl, ?_, ?_⟩
      · rw [At_mk]
        refine ⟨_, _, rfl, ?_, ?_⟩
        · have h2 := VM.out.bound.keeps (w' := wr) (fun x c T fz hx hg _ => ⟨fz, by rw [HH.out.block x hx.2 hx.1.2 hx.1.2]; exact hg⟩)
          exact (h2.keeps (kp _ (fun x hx => hx.1.1))).mono (fun x hx => by have := hx.1.1; omega)
        · exact LAt.mono (LAt.keeps OW'.out.at (kp _ (fun x hx => by have : W5.heap.size ≤ x := hx; omega))) (fun x hx => by have : W5.heap.size ≤ x := hx; omega)
      · exact below_setRow BW.out _ _ (by omega)

theorem refplain_any (N : Nat) : N ≤ 1000000 → ∀ (d : Dt), d.size ≤ N → ∀ (S : Nat → Prop) (cs : Array Value) (w : World), Dt.At S w d cs → Calls Try.prog 16 #[.agg cs] w (RetMk d.plain w) := by
  induction N with
  | zero => intro _ d hd; cases d; simp [Dt.size] at hd
  | succ N ih =>
    intro hN d hd S cs w hat
    obtain ⟨k, t, ms, l, q⟩ := d
    rw [At_mk] at hat
    obtain ⟨mv, lv, rfl, hm, hl⟩ := hat
    obtain ⟨lo, lc, rfl⟩ := hl.form
    rw [Dt.plain]
    exact refplain_list N (by omega) (ih (by omega)) k t l q (by simp only [Dt.size] at hd; omega) mv hm.one lo lc S w hl
end Go.Proofs.Ytlkpddokmibkiaa
