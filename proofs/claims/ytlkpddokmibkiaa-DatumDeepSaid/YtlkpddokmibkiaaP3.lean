/- Plain, at any datum. -/
import Derived.Test.YtlkpddokmibkiaaP2
namespace Go.Proofs.Ytlkpddokmibkiaa
open Go.RowKit
set_option linter.unusedVariables false
set_option linter.unusedSimpArgs false

set_option maxHeartbeats 2000000 in
theorem plain_nil (k : Int) (t : ByteArray) (mv : Value) (ao : Option Addr) (cap : Nat) (p : Int) (hm : mv.oneCell' = true) (w : World) :
    Calls Try.prog 15 #[.agg #[.int .i64 k, .string t, mv, .slice ao 0 cap, .int .i64 p]] w (RetCs #[.int .i64 k, .string t, .slice none 0 0, .slice none 0 0, .int .i64 p] w) := by
  go_enter Try.func15, Try.ntmps15
  go_wp2_with fail
  have r1 := (alloc_old' (w.alloc (.cells #[.int .i64 k, .string t, .slice none 0 0, .slice none 0 0, .int .i64 p] 28)) (.cells #[.int .i64 0, .string ⟨#[]⟩, .slice none 0 0, .slice none 0 0, .int .i64 0] 28) w.heap.size (by simp)).trans (alloc_at w (.cells #[.int .i64 k, .string t, .slice none 0 0, .slice none 0 0, .int .i64 p] 28))
  have r2 := alloc_at (w.alloc (.cells #[.int .i64 k, .string t, .slice none 0 0, .slice none 0 0, .int .i64 p] 28)) (.cells #[.int .i64 0, .string ⟨#[]⟩, .slice none 0 0, .slice none 0 0, .int .i64 0] 28)
  have hs : (w.alloc (.cells #[.int .i64 k, .string t, .slice none 0 0, .slice none 0 0, .int .i64 p] 28)).heap.size = w.heap.size + 1 := by simp
  rw [hs] at r2
  have HB := Lib.hid (((Below.refl w.heap.size w).alloc (Nat.le_refl _) (.cells #[.int .i64 k, .string t, .slice none 0 0, .slice none 0 0, .int .i64 p] 28)).alloc (by simp) (.cells #[.int .i64 0, .string ⟨#[]⟩, .slice none 0 0, .slice none 0 0, .int .i64 0] 28))
  generalize (w.alloc (.cells #[.int .i64 k, .string t, .slice none 0 0, .slice none 0 0, .int .i64 p] 28)).alloc (.cells #[.int .i64 0, .string ⟨#[]⟩, .slice none 0 0, .slice none 0 0, .int .i64 0] 28) = W at r1 r2 HB ⊢
  have R1 := Lib.hid r1
  have R2 := Lib.hid r2
  clear r1 r2 hs
  go_loopw [19] (fun iv wr => iv = .int .i64 0 ∧ wr = W) (fun _ _ => 0)
  case atStart => exact ⟨rfl, rfl⟩
  case round =>
    obtain ⟨rfl, rfl⟩ := hrel
    go_wp2_with (first | (refine wpList_load_row rfl 28 _ rfl w.heap.size rfl 28 #[.int .i64 k, .string t, .slice none 0 0, .slice none 0 0, .int .i64 p] (0, 0) _ R1.out Try.underlying28 rfl info28 ?_) | (refine wpList_store_row rfl 28 _ _ rfl (w.heap.size + 1) #[.int .i64 k, .string t, .slice none 0 0, .slice none 0 0, .int .i64 p] rfl rfl 28 Z5 R2.out info28 rfl (by simp [Value.oneCell']) ?_))
    refine bodyPost_ret (results_cell_row rfl _ _ (w.heap.size + 1) 28 #[.int .i64 k, .string t, .slice none 0 0, .slice none 0 0, .int .i64 p] (0, 0) _ rfl (setRow_heap wr _ _ _ 28 _ R2.out) Try.underlying28 rfl info28) rfl ?_
    exact ⟨rfl, below_setRow HB.out _ _ (by omega)⟩

theorem plains_append : ∀ (l m : List Dt), Dt.plains (l ++ m) = Dt.plains l ++ Dt.plains m
  | [], m => by simp [Dt.plains]
  | d :: l, m => by simp [Dt.plains, plains_append l m]
theorem plains_take (l : List Dt) (j : Nat) (h : j < l.length) : Dt.plains (l.take (j + 1)) = Dt.plains (l.take j) ++ [l[j].plain] := by
  rw [List.take_succ_eq_append_getElem h, plains_append]
  simp [Dt.plains]
/-- The loop: so many are put into the new row. -/
def PInv (l : List Dt) (w : World) (k : Int) (t : ByteArray) (p : Int) (iv : Value) (wr : World) : Prop :=
  ∃ j : Nat, j ≤ l.length ∧ iv = .int .i64 j ∧ wr.heap[w.heap.size]? = some (.cells #[.int .i64 k, .string t, .slice none 0 0, .slice (some ⟨w.heap.size + 1 + 1, 0, none⟩) l.length l.length, .int .i64 p] 28 (0, 0)) ∧
    wr.heap[w.heap.size + 1]? = some (.cells Z5 28 (0, 0)) ∧ Filled (w.heap.size + 1 + 1) (w.heap.size + 1 + 1) l.length wr (Dt.plains (l.take j)) ∧ Below w.heap.size w wr ∧ w.heap.size + 1 + 1 < wr.heap.size
theorem PW_inv (l : List Dt) (w : World) (k : Int) (t : ByteArray) (p : Int) : PInv l w k t p (.int .i64 0)
    (((w.alloc (.cells #[.int .i64 k, .string t, .slice none 0 0, .slice (some ⟨w.heap.size + 1 + 1, 0, none⟩) l.length l.length, .int .i64 p] 28)).alloc (.cells Z5 28)).alloc (.cells (madeCells Z5 (l.length * 5)) 28)) := by
  have e1 : ∀ c, (w.alloc (.cells c 28)).heap.size = w.heap.size + 1 := fun c => by simp
  have e2 : ∀ c, ((w.alloc (.cells c 28)).alloc (.cells Z5 28)).heap.size = w.heap.size + 1 + 1 := fun c => by simp
  refine ⟨0, Nat.zero_le _, rfl, ?_, ?_, ?_, ?_, ?_⟩
  · exact (Lib.alloc_old _ _ _ (by simp; omega)).trans ((Lib.alloc_old _ _ _ (by simp)).trans (alloc_at w _))
  · have h := alloc_at (w.alloc (.cells #[.int .i64 k, .string t, .slice none 0 0, .slice (some ⟨w.heap.size + 1 + 1, 0, none⟩) l.length l.length, .int .i64 p] 28)) (.cells Z5 28)
    rw [e1] at h
    exact (Lib.alloc_old _ _ _ (by simp)).trans h
  · have h := alloc_at ((w.alloc (.cells #[.int .i64 k, .string t, .slice none 0 0, .slice (some ⟨w.heap.size + 1 + 1, 0, none⟩) l.length l.length, .int .i64 p] 28)).alloc (.cells Z5 28)) (.cells (madeCells Z5 (l.length * 5)) 28)
    rw [e2] at h
    exact ⟨_, h, size_madeCells _ _, fun j hj => by simp [Dt.plains] at hj⟩
  · exact (((Below.refl w.heap.size w).alloc (Nat.le_refl _) _).alloc (by simp) (.cells Z5 28)).alloc (by simp; omega) _
  · simp
theorem plain_more {l : List Dt} {w : World} {k : Int} {t : ByteArray} {p : Int} {j : Nat} {wr : World} (hlt : j < l.length)
    (hbox : wr.heap[w.heap.size]? = some (.cells #[.int .i64 k, .string t, .slice none 0 0, .slice (some ⟨w.heap.size + 1 + 1, 0, none⟩) l.length l.length, .int .i64 p] 28 (0, 0)))
    (hres : wr.heap[w.heap.size + 1]? = some (.cells Z5 28 (0, 0))) (hfil : Filled (w.heap.size + 1 + 1) (w.heap.size + 1 + 1) l.length wr (Dt.plains (l.take j))) (hbel : Below w.heap.size w wr) (hbs : w.heap.size + 1 + 1 < wr.heap.size)
    {el : Array Value} {W2 : World} (hW2 : W2 = wr.alloc (.cells el 28)) {k5 : Int} {t5 : ByteArray} {mv5 lv5 : Value} {p5 : Int} {w7 : World}
    (hat : Dt.At (fun g => W2.drew.heap.size ≤ g) w7 l[j].plain #[.int .i64 k5, .string t5, mv5, lv5, .int .i64 p5]) (hb : Below W2.drew.heap.size W2.drew w7) :
    w7.there (w.heap.size + 1 + 1) (j * 5) 5 ∧ Below (w.heap.size + 1 + 1) W2 w7 ∧ w7.heap[wr.heap.size]? = some (.cells el 28 (0, 0)) ∧
      Below (w.heap.size + 1 + 1) W2 (w7.setCells (w.heap.size + 1 + 1) (j * 5) [.int .i64 k5, .string t5, mv5, lv5, .int .i64 p5]) ∧ (w7.setCells (w.heap.size + 1 + 1) (j * 5) [.int .i64 k5, .string t5, mv5, lv5, .int .i64 p5]).heap[wr.heap.size]? = some (.cells el 28 (0, 0)) ∧
      PInv l w k t p (.int .i64 ((j : Int) + 1)) (w7.setCells (w.heap.size + 1 + 1) (j * 5) [.int .i64 k5, .string t5, mv5, lv5, .int .i64 p5]) := by
  have hs2 : W2.heap.size = wr.heap.size + 1 := by rw [hW2]; simp
  have hsd : W2.drew.heap.size = wr.heap.size + 1 := hs2
  have hb2 : Below W2.heap.size W2 w7 := (Below.refl W2.heap.size W2).drew.trans hb
  have hbw : Below wr.heap.size wr w7 := by
    have h := (Below.refl wr.heap.size wr).alloc (Nat.le_refl _) (.cells el 28)
    rw [← hW2] at h
    exact h.trans (hb2.mono (by omega))
  have hf7 := hfil.below hbw
  have hlen : (Dt.plains (l.take j)).length = j := by rw [plains_length, List.length_take]; omega
  have he : W2.heap[wr.heap.size]? = some (.cells el 28 (0, 0)) := by rw [hW2]; exact alloc_at wr _
  have he7 : w7.heap[wr.heap.size]? = some (.cells el 28 (0, 0)) := by rw [hb2.block _ (by omega)]; exact he
  have hB7 : Below (w.heap.size + 1 + 1) W2 w7 := hb2.mono (by omega)
  have hB9 := below_setCells5 hB7 (w.heap.size + 1 + 1) (j * 5) (.int .i64 k5) (.string t5) mv5 lv5 (.int .i64 p5) (Nat.le_refl _)
  have hw9 : Below (w.heap.size + 1 + 1) wr (w7.setCells (w.heap.size + 1 + 1) (j * 5) [.int .i64 k5, .string t5, mv5, lv5, .int .i64 p5]) := below_setCells5 (hbw.mono (by omega)) _ _ _ _ _ _ _ (Nat.le_refl _)
  refine ⟨hf7.there hlt, hB7, he7, hB9, by rw [setCells5_other _ _ _ _ _ _ _ _ _ (by omega)]; exact he7, j + 1, by omega, by congr 1, ?_, ?_, ?_, ?_, ?_⟩
  · rw [hw9.block _ (by omega)]; exact hbox
  · rw [hw9.block _ (by omega)]; exact hres
  · rw [plains_take l j hlt]
    have h := hf7.snoc (d := l[j].plain) (by rw [hlen]; exact hlt) (Dt.At.mono (fun g (hg : W2.drew.heap.size ≤ g) => ⟨by omega, by omega⟩) _ _ hat)
    rw [hlen] at h
    exact h
  · exact hbel.trans (hw9.mono (by omega))
  · have := hw9.size; omega
theorem row_range {w : World} {g : Nat} {cs : List Value} {T : TypeId} {fz : Nat × Nat} (h : w.heap[g]? = some (.cells cs.toArray T fz)) : w.rangeAt g 0 cs := by
  intro j v hv
  rw [Lib.cell_of_heap h]
  simpa using hv

set_option maxHeartbeats 4000000 in
theorem plain_list (n : Nat) (hn : n ≤ 1000000) (ih : ∀ (d : Dt), d.size ≤ n → ∀ (S : Nat → Prop) (cs : Array Value) (w : World), Dt.At S w d cs → Calls Try.prog 15 #[.agg cs] w (RetMk d.plain w))
    (k : Int) (t : ByteArray) (mv : Value) (l : List Dt) (p : Int) (hm : mv.oneCell' = true) (hsz : Dt.sizes l ≤ n) (hl : 0 < l.length) (S : Nat → Prop) (ao : Option Addr) (cap : Nat) (w : World) (hL : LAt S w (.slice ao l.length cap) l) :
    Calls Try.prog 15 #[.agg #[.int .i64 k, .string t, mv, .slice ao l.length cap, .int .i64 p]] w (RetMk (.mk k t [] (Dt.plains l) p) w) := by
  have hll := length_sizes l
  have hl1 : l.length ≤ 1000000 := by omega
  have q0 : decide ((0 : Int) < (l.length : Int)) = true := decide_eq_true (by omega)
  have IH := Lib.hid ih
  have HL := Lib.hid hL
  have HS := Lib.hid hsz
  have HI := Lib.hid (PW_inv l w k t p)
  clear ih hL hsz hll
  go_enter Try.func15, Try.ntmps15
  go_wp2_with (refine wpList_wanted (by rfl) fun K hK => ?_; refine wp_made _ _ l.length rfl rfl rfl (by omega) (hK _ _ ?_); clear hK K)
  go_loopw [19] (fun iv wr => PInv l w k t p iv wr) (fun iv _ => l.length - (intOf iv).toNat)
  case atStart => exact HI.out
  case round =>
    clear HI
    obtain ⟨j, hj, rfl, hbox, hres, hfil, hbel, hbs⟩ := hrel
    have HB := Lib.hid hbel
    have BX := Lib.hid hbox
    have RS := Lib.hid hres
    have FI := Lib.hid hfil
    clear hbox hres hfil hbel
    by_cases hlt : j < l.length
    · have q1 : decide ((j : Int) < (l.length : Int)) = true := decide_eq_true (by omega)
      obtain ⟨g, o, k', t', mv', lv', p', rfl, hS, -, hat, e0, e1, e2, e3, e4, o1, o2⟩ := (HL.out.keeps (Keeps.of_below HB.out)).get j hlt
      have hsj := size_get l j hlt
      have z1 : (#[.int .i64 k', .string t', mv', lv', .int .i64 p'] : Array Value).all (·.oneCell') = true := by simp [Value.oneCell'] at o1 o2 ⊢; exact ⟨o1, o2⟩
      have F3 := Lib.hid (Dt.At.keeps (Keeps.of_below ((Below.refl wr.heap.size wr).alloc (Nat.le_refl _) (.cells #[.int .i64 k', .string t', mv', lv', .int .i64 p'] 28))) _ _ hat)
      clear hat hS
      go_upto_region 8 with (refine wpList_store_row rfl 28 _ _ rfl wr.heap.size #[.int .i64 k', .string t', mv', lv', .int .i64 p'] rfl rfl 28 Z5 (alloc_at _ _) info28 rfl z1 ?_)
      simp only [Act.put]
      have E0 : (wr.alloc (.cells #[.int .i64 0, .string ⟨#[]⟩, .slice none 0 0, .slice none 0 0, .int .i64 0] 28)).setRow wr.heap.size #[.int .i64 k', .string t', mv', lv', .int .i64 p'] = wr.alloc (.cells #[.int .i64 k', .string t', mv', lv', .int .i64 p'] 28) := setRow_new _ _ _ _
      rw [E0]
      clear E0 e0 e1 e2 e3 e4
      have F4 := Lib.hid (alloc_at wr (.cells #[.int .i64 k', .string t', mv', lv', .int .i64 p'] 28))
      have hle2 : wr.heap.size < (wr.alloc (.cells #[.int .i64 k', .string t', mv', lv', .int .i64 p'] 28)).heap.size := by simp
      have FX := Lib.hid (show (wr.alloc (.cells #[.int .i64 k', .string t', mv', lv', .int .i64 p'] 28)).cell? ⟨w.heap.size, 3, none⟩ = some (.slice (some ⟨w.heap.size + 1 + 1, 0, none⟩) l.length l.length) by
        rw [Lib.cell_of_heap ((Lib.alloc_old _ _ _ (by omega)).trans BX.out)]; rfl)
      obtain ⟨W2, hW2⟩ : ∃ W2, W2 = wr.alloc (.cells #[.int .i64 k', .string t', mv', lv', .int .i64 p'] 28) := ⟨_, rfl⟩
      rw [← hW2] at F3 F4 hle2 FX ⊢
      have HW2 := Lib.hid hW2
      clear hW2
      have HX := Lib.hid (IH.out l[j] (by have := HS.out; omega) S _ W2.drew (Dt.At.keeps (Keeps.of_below (Below.refl _ _).drew) _ _ F3.out))
      clear IH q1
      refine wp_region_noPanic ?_
      refine wp_region_held_drew (S := fun w' => Below (w.heap.size + 1 + 1) W2 w' ∧ w'.heap[wr.heap.size]? = some (.cells #[.int .i64 k', .string t', mv', lv', .int .i64 p'] 28 (0, 0))) (by kernel_rfl) (⟨(Below.refl _ _).drew, F4.out⟩) (fun hHeld => ?_)
      refine wpAnyH_take (i := 0) (v := Value.pointer (some ⟨w.heap.size, 3, none⟩)) rfl (by kernel_rfl) (by kernel_rfl) (by kernel_rfl) (fun _ _ _ h => h) (Or.inl ⟨rfl, fun w' hw' => ?_⟩) hHeld ?_
      · go_simp
      simp only [List.getElem_toArray, List.getElem_cons_succ, List.getElem_cons_zero, Act.put, List.setIfInBounds_toArray, List.set_cons_zero, List.set_cons_succ]
      refine wpAnyH_take (i := 1) (v := Value.slice (some ⟨w.heap.size + 1 + 1, 0, none⟩) l.length l.length) rfl (by kernel_rfl) (by kernel_rfl) (by kernel_rfl) (fun _ _ _ h => h) (Or.inl ⟨rfl, fun w' hw' => ?_⟩) hHeld ?_
      · have c := (hw'.1.cell (p := ⟨w.heap.size, 3, none⟩) (by show w.heap.size < _; omega)).trans FX.out; go_simp
      simp only [List.getElem_toArray, List.getElem_cons_succ, List.getElem_cons_zero, Act.put, List.setIfInBounds_toArray, List.set_cons_zero, List.set_cons_succ]
      refine wpAnyH_take (i := 2) (v := Value.int .i64 j) rfl (by kernel_rfl) (by kernel_rfl) (by kernel_rfl) (fun _ _ _ h => h) (Or.inl ⟨rfl, fun w' hw' => ?_⟩) hHeld ?_
      · go_simp
      simp only [List.getElem_toArray, List.getElem_cons_succ, List.getElem_cons_zero, Act.put, List.setIfInBounds_toArray, List.set_cons_zero, List.set_cons_succ]
      refine wpAnyH_take (i := 3) rfl (by kernel_rfl) (by kernel_rfl) (by kernel_rfl) (fun _ _ _ h => h) (yieldsIf_load_mid (by rfl) _ _ rfl wr.heap.size 0 rfl [.int .i64 k', .string t', mv', lv', .int .i64 p'] _ (fun w' hw' => row_range hw'.2) Try.underlying28 rfl info28) hHeld ?_
      simp only [List.getElem_toArray, List.getElem_cons_succ, List.getElem_cons_zero, Act.put, List.setIfInBounds_toArray, List.set_cons_zero, List.set_cons_succ]
      refine wpAnyH_ready (rs := [4]) (by kernel_rfl) (by simp) ?_
      refine (AllReadyH.cons rfl (fun K hK => ?_) AllReadyH.nil)
      go_simp
      refine HX.out.mono ?_
      rintro e w7 ⟨cs, rfl, hat, hb⟩
      obtain ⟨k5, t5, mv5, lv5, p5, rfl, o3, o4⟩ := At_form hat
      obtain ⟨hth, hS7, he7, hS9, he9, hP⟩ := plain_more hlt BX.out RS.out FI.out HB.out hbs HW2.out hat hb
      have HP := Lib.hid hP
      have H9 := Lib.hid hS9
      have E9 := Lib.hid he9
      have TH := Lib.hid hth
      refine hK.out _ _ ⟨hS7, he7⟩ (fun hHeld => ?_)
      clear hK K hat hb hP hS9 he9 hth hS7 he7
      try simp only [List.getElem_toArray, List.getElem_cons_succ, List.getElem_cons_zero, Act.put, List.setIfInBounds_toArray, List.set_cons_zero, List.set_cons_succ]
      refine wpAnyH_take (i := 5) (v := Value.pointer (some ⟨w.heap.size + 1 + 1, j * 5, none⟩)) rfl (by kernel_rfl) (by kernel_rfl) (by kernel_rfl) (fun _ _ _ h => h) (Or.inl ⟨rfl, fun w' hw' => ?_⟩) hHeld ?_
      · go_simp
      simp only [List.getElem_toArray, List.getElem_cons_succ, List.getElem_cons_zero, Act.put, List.setIfInBounds_toArray, List.set_cons_zero, List.set_cons_succ]
      refine wpAnyH_ready (rs := [6]) (by kernel_rfl) (by simp) ?_
      refine (AllReadyH.cons rfl (fun K hK => ?_) AllReadyH.nil)
      rw [if_pos (by rfl)]
      refine wp_store_mid 28 _ _ rfl (w.heap.size + 1 + 1) (j * 5) #[.int .i64 k5, .string t5, mv5, lv5, .int .i64 p5] rfl rfl TH.out info28 (by simp [Value.oneCell'] at o3 o4 ⊢; exact ⟨o3, o4⟩) ?_
      refine hK.out _ _ ⟨H9.out, E9.out⟩ (fun hHeld => ?_)
      clear hK K TH
      try simp only [List.getElem_toArray, List.getElem_cons_succ, List.getElem_cons_zero, Act.put, List.setIfInBounds_toArray, List.set_cons_zero, List.set_cons_succ]
      refine wpAnyH_done (by kernel_rfl) ?_ _
      refine NoPanic.normal ?_
      clear hHeld
      go_wp2_with fail
      go_roundw
      case rel => exact HP.out
      case measure => simp [intOf]; omega
    · obtain rfl : j = l.length := by omega
      have q1 : decide ((l.length : Int) < (l.length : Int)) = false := decide_eq_false (by omega)
      have hF := FI.out
      rw [List.take_length] at hF
      have HF := Lib.hid hF
      clear hF FI hlt
      go_wp2_with (first | (refine wpList_load_row rfl 28 _ rfl w.heap.size rfl 28 #[.int .i64 k, .string t, .slice none 0 0, .slice (some ⟨w.heap.size + 1 + 1, 0, none⟩) l.length l.length, .int .i64 p] (0, 0) _ BX.out Try.underlying28 rfl info28 ?_) | (refine wpList_store_row rfl 28 _ _ rfl (w.heap.size + 1) #[.int .i64 k, .string t, .slice none 0 0, .slice (some ⟨w.heap.size + 1 + 1, 0, none⟩) l.length l.length, .int .i64 p] rfl rfl 28 Z5 RS.out info28 rfl (by simp [Value.oneCell']) ?_))
      refine bodyPost_ret (results_cell_row rfl _ _ (w.heap.size + 1) 28 #[.int .i64 k, .string t, .slice none 0 0, .slice (some ⟨w.heap.size + 1 + 1, 0, none⟩) l.length l.length, .int .i64 p] (0, 0) _ rfl (setRow_heap wr _ _ _ 28 _ RS.out) Try.underlying28 rfl info28) rfl ?_
      refine ⟨_, rfl, ?_, below_setRow HB.out _ _ (by omega)⟩
      rw [At_mk]
      refine ⟨_, _, rfl, .inl ⟨rfl, rfl⟩, ?_⟩
      refine LAt.mono (LAt.keeps (HF.out.at (Nat.le_refl _) (plains_length l)) ?_) (fun g (hg : w.heap.size + 1 + 1 ≤ g) => by omega)
      intro g c T fz hs hg _
      exact ⟨fz, by rw [setRow_other wr _ g _ (by have : w.heap.size + 1 + 1 ≤ g := hs; omega)]; exact hg⟩

theorem plain_any (n : Nat) : n ≤ 1000000 → ∀ (d : Dt), d.size ≤ n → ∀ (S : Nat → Prop) (cs : Array Value) (w : World), Dt.At S w d cs → Calls Try.prog 15 #[.agg cs] w (RetMk d.plain w) := by
  induction n with
  | zero => intro _ d hd; cases d; simp [Dt.size] at hd
  | succ n ih =>
    intro hn d hd S cs w hat
    obtain ⟨k, t, ms, l, p⟩ := d
    rw [At_mk] at hat
    obtain ⟨mv, lv, rfl, hm, hl⟩ := hat
    obtain ⟨ao, cap, rfl⟩ := hl.form
    rw [Dt.plain]
    by_cases h0 : l = []
    · subst h0
      refine (plain_nil k t mv ao cap p hm.one w).mono ?_
      rintro e w' ⟨rfl, hb⟩
      exact ⟨_, rfl, leaf_at _ _ _ _ _, hb⟩
    · exact plain_list n (by omega) (ih (by omega)) k t mv l p hm.one (by simp only [Dt.size] at hd; omega) (List.length_pos_iff.2 h0) S ao cap w hl
end Go.Proofs.Ytlkpddokmibkiaa
