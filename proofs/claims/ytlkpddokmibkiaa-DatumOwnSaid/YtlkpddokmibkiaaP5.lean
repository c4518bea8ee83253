/- Plain once more: its rows can be written over. -/
import Derived.Test.YtlkpddokmibkiaaC7
namespace Go.Proofs.Ytlkpddokmibkiaa
open Go.RowKit
set_option linter.unusedVariables false
set_option linter.unusedSimpArgs false

/-- A row of n data that can be written over, its block one of S. -/
def Sh1 (S : Nat → Prop) (w : World) (lv : Value) (n : Nat) : Prop :=
  (lv = .slice none 0 0 ∧ n = 0) ∨ ∃ g arr, lv = .slice (some ⟨g, 0, none⟩) n n ∧ S g ∧ w.heap[g]? = some (.cells arr 28 (0, 0)) ∧ arr.size = n * 5 ∧ n ≤ 1000000
/-- Such a row, the parts' parts in such rows, too. -/
def Sh2 (S : Nat → Prop) (w : World) (lv : Value) (n : Nat) : Prop :=
  (lv = .slice none 0 0 ∧ n = 0) ∨ ∃ g arr, lv = .slice (some ⟨g, 0, none⟩) n n ∧ S g ∧ w.heap[g]? = some (.cells arr 28 (0, 0)) ∧ arr.size = n * 5 ∧ n ≤ 1000000 ∧ ∀ j, j < n → ∃ li ni, arr[5 * j + 3]? = some li ∧ Sh1 S w li ni
theorem Sh2.to1 {S : Nat → Prop} {w : World} {lv : Value} {n : Nat} (h : Sh2 S w lv n) : Sh1 S w lv n := by
  rcases h with h | ⟨g, arr, h1, h2, h3, h4, h6, _⟩
  · exact .inl h
  · exact .inr ⟨g, arr, h1, h2, h3, h4, h6⟩
theorem Sh1.mono {S T : Nat → Prop} {w : World} {lv : Value} {n : Nat} (h : Sh1 S w lv n) (k : ∀ x, S x → T x) : Sh1 T w lv n := by
  rcases h with h | ⟨g, arr, h1, h2, h3, h4, h6⟩
  · exact .inl h
  · exact .inr ⟨g, arr, h1, k g h2, h3, h4, h6⟩
theorem Sh2.mono {S T : Nat → Prop} {w : World} {lv : Value} {n : Nat} (h : Sh2 S w lv n) (k : ∀ x, S x → T x) : Sh2 T w lv n := by
  rcases h with h | ⟨g, arr, h1, h2, h3, h4, h6, h5⟩
  · exact .inl h
  · exact .inr ⟨g, arr, h1, k g h2, h3, h4, h6, fun j hj => by obtain ⟨li, ni, e, hs⟩ := h5 j hj; exact ⟨li, ni, e, hs.mono k⟩⟩
/-- What keeps these blocks as they are. -/
theorem Sh1.keep {S : Nat → Prop} {w w' : World} {lv : Value} {n : Nat} (h : Sh1 S w lv n) (k : ∀ x c, S x → w.heap[x]? = some (.cells c 28 (0, 0)) → w'.heap[x]? = some (.cells c 28 (0, 0))) : Sh1 S w' lv n := by
  rcases h with h | ⟨g, arr, h1, h2, h3, h4, h6⟩
  · exact .inl h
  · exact .inr ⟨g, arr, h1, h2, k g _ h2 h3, h4, h6⟩
theorem Sh2.keep {S : Nat → Prop} {w w' : World} {lv : Value} {n : Nat} (h : Sh2 S w lv n) (k : ∀ x c, S x → w.heap[x]? = some (.cells c 28 (0, 0)) → w'.heap[x]? = some (.cells c 28 (0, 0))) : Sh2 S w' lv n := by
  rcases h with h | ⟨g, arr, h1, h2, h3, h4, h6, h5⟩
  · exact .inl h
  · exact .inr ⟨g, arr, h1, h2, k g _ h2 h3, h4, h6, fun j hj => by obtain ⟨li, ni, e, hs⟩ := h5 j hj; exact ⟨li, ni, e, hs.keep k⟩⟩
theorem Sh1.bound {S : Nat → Prop} {w : World} {lv : Value} {n : Nat} (h : Sh1 S w lv n) : Sh1 (fun x => S x ∧ x < w.heap.size) w lv n := by
  rcases h with h | ⟨g, arr, h1, h2, h3, h4, h6⟩
  · exact .inl h
  · exact .inr ⟨g, arr, h1, ⟨h2, (Array.getElem?_eq_some_iff.1 h3).1⟩, h3, h4, h6⟩
theorem Sh2.bound {S : Nat → Prop} {w : World} {lv : Value} {n : Nat} (h : Sh2 S w lv n) : Sh2 (fun x => S x ∧ x < w.heap.size) w lv n := by
  rcases h with h | ⟨g, arr, h1, h2, h3, h4, h6, h5⟩
  · exact .inl h
  · exact .inr ⟨g, arr, h1, ⟨h2, (Array.getElem?_eq_some_iff.1 h3).1⟩, h3, h4, h6, fun j hj => by obtain ⟨li, ni, e, hs⟩ := h5 j hj; exact ⟨li, ni, e, hs.bound⟩⟩
/-- A cell is written over, and it is no row. -/
theorem Sh1.set {S : Nat → Prop} {w : World} {lv : Value} {n : Nat} (h : Sh1 S w lv n) (b o : Nat) (u : Value) : Sh1 S (w.setCell ⟨b, o, none⟩ u) lv n := by
  rcases h with h | ⟨g, arr, h1, h2, h3, h4, h6⟩
  · exact .inl h
  · by_cases hb : g = b
    · subst hb
      exact .inr ⟨g, _, h1, h2, heap_setCell_same w g o arr 28 u h3, by simpa using h4, h6⟩
    · exact .inr ⟨g, arr, h1, h2, by rw [heap_setCell_other _ _ _ _ hb]; exact h3, h4, h6⟩
theorem Sh2.set {S : Nat → Prop} {w : World} {lv : Value} {n : Nat} (h : Sh2 S w lv n) (b o : Nat) (u : Value) (ho : o % 5 ≠ 3) : Sh2 S (w.setCell ⟨b, o, none⟩ u) lv n := by
  rcases h with h | ⟨g, arr, h1, h2, h3, h4, h6, h5⟩
  · exact .inl h
  · by_cases hb : g = b
    · subst hb
      refine .inr ⟨g, _, h1, h2, heap_setCell_same w g o arr 28 u h3, by simpa using h4, h6, fun j hj => ?_⟩
      obtain ⟨li, ni, e, hs⟩ := h5 j hj
      exact ⟨li, ni, by rw [Array.getElem?_setIfInBounds_ne (by omega)]; exact e, hs.set _ _ _⟩
    · refine .inr ⟨g, arr, h1, h2, by rw [heap_setCell_other _ _ _ _ hb]; exact h3, h4, h6, fun j hj => ?_⟩
      obtain ⟨li, ni, e, hs⟩ := h5 j hj
      exact ⟨li, ni, e, hs.set _ _ _⟩
def RetS (d : Dt) (n : Nat) (w : World) (e : Ending) (w' : World) : Prop :=
  ∃ k t mv lv p, e = .returned (.agg #[.int .i64 k, .string t, mv, lv, .int .i64 p]) ∧ Dt.At (fun g => w.heap.size ≤ g) w' d #[.int .i64 k, .string t, mv, lv, .int .i64 p] ∧ Sh2 (fun g => w.heap.size ≤ g) w' lv n ∧ Below w.heap.size w w'
/-- The loop: so many parts of the new row have rows that can be written over. -/
def ShInv (n : Nat) (w : World) (iv : Value) (wr : World) : Prop := ∃ (j : Nat) (arr : Array Value), iv = .int .i64 j ∧ wr.heap[w.heap.size + 1 + 1]? = some (.cells arr 28 (0, 0)) ∧ arr.size = n * 5 ∧
  ∀ i, i < j → ∃ li ni, arr[5 * i + 3]? = some li ∧ Sh1 (fun x => w.heap.size + 1 + 1 < x ∧ x < wr.heap.size) wr li ni
def PInvS (l : List Dt) (w : World) (k : Int) (t : ByteArray) (p : Int) (iv : Value) (wr : World) : Prop := PInv l w k t p iv wr ∧ ShInv l.length w iv wr
theorem PW_invS (l : List Dt) (w : World) (k : Int) (t : ByteArray) (p : Int) : PInvS l w k t p (.int .i64 0)
    (((w.alloc (.cells #[.int .i64 k, .string t, .slice none 0 0, .slice (some ⟨w.heap.size + 1 + 1, 0, none⟩) l.length l.length, .int .i64 p] 28)).alloc (.cells Z5 28)).alloc (.cells (madeCells Z5 (l.length * 5)) 28)) := by
  refine ⟨PW_inv l w k t p, 0, madeCells Z5 (l.length * 5), rfl, ?_, size_madeCells _ _, fun i hi => absurd hi (by omega)⟩
  have h := alloc_at ((w.alloc (.cells #[.int .i64 k, .string t, .slice none 0 0, .slice (some ⟨w.heap.size + 1 + 1, 0, none⟩) l.length l.length, .int .i64 p] 28)).alloc (.cells Z5 28)) (.cells (madeCells Z5 (l.length * 5)) 28)
  have e2 : ((w.alloc (.cells #[.int .i64 k, .string t, .slice none 0 0, .slice (some ⟨w.heap.size + 1 + 1, 0, none⟩) l.length l.length, .int .i64 p] 28)).alloc (.cells Z5 28)).heap.size = w.heap.size + 1 + 1 := by simp
  rw [e2] at h; exact h
theorem sh_more {n : Nat} {w : World} {j : Nat} {wr : World} (hlt : j < n) (hs : ShInv n w (.int .i64 j) wr) (hbs : w.heap.size + 1 + 1 < wr.heap.size) (hbel : Below w.heap.size w wr)
    {el : Array Value} {W2 : World} (hW2 : W2 = wr.alloc (.cells el 28)) {m : Nat} {lv5 : Value} {w7 : World} (hs2 : Sh2 (fun g => W2.drew.heap.size ≤ g) w7 lv5 m) (hb : Below W2.drew.heap.size W2.drew w7) {k5 : Int} {t5 : ByteArray} {mv5 : Value} {p5 : Int} :
    ShInv n w (.int .i64 ((j : Int) + 1)) (w7.setCells (w.heap.size + 1 + 1) (j * 5) [.int .i64 k5, .string t5, mv5, lv5, .int .i64 p5]) := by
  obtain ⟨j', arr, e, ha, hsz, hsh⟩ := hs
  have e' : (j : Int) = (j' : Int) := by injection e
  obtain rfl : j' = j := by omega
  have hs2s : W2.heap.size = wr.heap.size + 1 := by rw [hW2]; simp
  have hsd : W2.drew.heap.size = wr.heap.size + 1 := hs2s
  have hb2 : Below W2.heap.size W2 w7 := (Below.refl W2.heap.size W2).drew.trans hb
  have hbw : Below wr.heap.size wr w7 := by
    have h := (Below.refl wr.heap.size wr).alloc (Nat.le_refl _) (.cells el 28)
    rw [← hW2] at h
    exact h.trans (hb2.mono (by omega))
  have h7 : w7.heap[w.heap.size + 1 + 1]? = some (.cells arr 28 (0, 0)) := by rw [hbw.block _ hbs]; exact ha
  have hss : (w7.setCells (w.heap.size + 1 + 1) (j' * 5) [.int .i64 k5, .string t5, mv5, lv5, .int .i64 p5]).heap.size = w7.heap.size := by simp [World.setCells, World.setCell]
  refine ⟨j' + 1, _, by congr 1, setCells5 w7 (w.heap.size + 1 + 1) (j' * 5) arr 28 _ _ _ _ _ h7, by rw [put5_size]; exact hsz, fun i hi => ?_⟩
  by_cases hij : i < j'
  · obtain ⟨li, ni, e1, h1⟩ := hsh i hij
    refine ⟨li, ni, by rw [put5_other _ _ _ _ _ _ _ _ (by omega)]; exact e1, ?_⟩
    refine Sh1.mono (Sh1.keep (w' := w7.setCells (w.heap.size + 1 + 1) (j' * 5) [.int .i64 k5, .string t5, mv5, lv5, .int .i64 p5]) h1 (fun x c hx hh => ?_)) (fun x hx => ⟨hx.1, by rw [hss]; have := hbw.size; omega⟩)
    rw [setCells5_other _ _ _ _ _ _ _ _ _ (by omega), hbw.block x hx.2]; exact hh
  · obtain rfl : i = j' := by omega
    have h5 := put5_at arr (i * 5) (.int .i64 k5) (.string t5) mv5 lv5 (.int .i64 p5) (by rw [hsz]; omega) 3 (by omega)
    refine ⟨lv5, m, by rw [show 5 * i + 3 = i * 5 + 3 by omega, h5]; rfl, ?_⟩
    refine Sh1.mono (Sh1.keep (w' := w7.setCells (w.heap.size + 1 + 1) (i * 5) [.int .i64 k5, .string t5, mv5, lv5, .int .i64 p5]) hs2.to1.bound (fun x c hx hh => ?_)) (fun x hx => ⟨by have : W2.drew.heap.size ≤ x := hx.1; omega, by rw [hss]; exact hx.2⟩)
    rw [setCells5_other _ _ _ _ _ _ _ _ _ (by have : W2.drew.heap.size ≤ x := hx.1; omega)]; exact hh
theorem sh_end {n : Nat} {w wr : World} (hs : ShInv n w (.int .i64 (n : Int)) wr) (hn : n ≤ 1000000) (cs : Array Value) : Sh2 (fun g => w.heap.size ≤ g) (wr.setRow (w.heap.size + 1) cs) (.slice (some ⟨w.heap.size + 1 + 1, 0, none⟩) n n) n := by
  obtain ⟨j', arr, e, ha, hsz, hsh⟩ := hs
  have e' : (n : Int) = (j' : Int) := by injection e
  obtain rfl : j' = n := by omega
  refine .inr ⟨_, arr, rfl, by omega, by rw [setRow_other wr _ _ _ (by omega)]; exact ha, hsz, hn, fun j hj => ?_⟩
  obtain ⟨li, ni, e1, h1⟩ := hsh j hj
  refine ⟨li, ni, e1, Sh1.mono (Sh1.keep (w' := wr.setRow (w.heap.size + 1) cs) h1 (fun x c hx hh => ?_)) (fun x hx => by have := hx.1; omega)⟩
  rw [setRow_other wr _ x _ (by have := hx.1; omega)]; exact hh

set_option maxHeartbeats 4000000 in
theorem plainS_list (n : Nat) (hn : n ≤ 1000000) (ih : ∀ (d : Dt), d.size ≤ n → ∀ (S : Nat → Prop) (cs : Array Value) (w : World), Dt.At S w d cs → Calls Try.prog 15 #[.agg cs] w (RetS d.plain d.parts.length w))
    (k : Int) (t : ByteArray) (mv : Value) (l : List Dt) (p : Int) (hm : mv.oneCell' = true) (hsz : Dt.sizes l ≤ n) (hl : 0 < l.length) (S : Nat → Prop) (ao : Option Addr) (cap : Nat) (w : World) (hL : LAt S w (.slice ao l.length cap) l) :
    Calls Try.prog 15 #[.agg #[.int .i64 k, .string t, mv, .slice ao l.length cap, .int .i64 p]] w (RetS (.mk k t [] (Dt.plains l) p) l.length w) := by
  have hll := length_sizes l
  have hl1 : l.length ≤ 1000000 := by omega
  have q0 : decide ((0 : Int) < (l.length : Int)) = true := decide_eq_true (by omega)
  have IH := Lib.hid ih
  have HL := Lib.hid hL
  have HS := Lib.hid hsz
  have HI := Lib.hid (PW_invS l w k t p)
  clear ih hL hsz hll
  go_enter Try.func15, Try.ntmps15
  go_wp2_with (refine wpList_wanted (by rfl) fun K hK => ?_; refine wp_made _ _ l.length rfl rfl rfl (by omega) (hK _ _ ?_); clear hK K)
  go_loopw [19] (fun iv wr => PInvS l w k t p iv wr) (fun iv _ => l.length - (intOf iv).toNat)
  case atStart => exact HI.out
  case round =>
    clear HI
    obtain ⟨⟨j, hj, rfl, hbox, hres, hfil, hbel, hbs⟩, hsh⟩ := hrel
    have HSH := Lib.hid hsh
    clear hsh
    have HB := Lib.hid hbel
    have BX := Lib.hid hbox
    have RS := Lib.hid hres
    have FI := Lib.hid hfil
    clear hbox hres hfil hbel
    by_cases hlt : j < l.length
    · have q1 : decide ((j : Int) < (l.length : Int)) = true := decide_eq_true (by omega)
      obtain ⟨g, o, k', t', mv', lv', p', rfl, hS, -, hat, e0, e1, e2, e3, e4, o1, o2⟩ := (HL.out.keeps (Keeps.of_below HB.out)).get j hlt
      have hsj := size_get l j hlt
      have z1 : (#[.int .i64 k', .string t', mv', lv', .int .i64 p'] : Array Value).all (·.oneCell') = true := by simp [Value.oneCell'] at o1 o2 ⊢; exact ⟨o1, o2⟩
      have F3 := Lib.hid (Dt.At.keeps (Keeps.of_below ((Below.refl wr.heap.size wr).alloc (Nat.le_refl _) (.cells #[.int .i64 k', .string t', mv', lv', .int .i64 p'] 28))) _ _ hat)
      clear hat hS
      go_upto_region 8 with (refine wpList_store_row rfl 28 _ _ rfl wr.heap.size #[.int .i64 k', .string t', mv', lv', .int .i64 p'] rfl rfl 28 Z5 (alloc_at _ _) info28 rfl z1 ?_)
      simp only [Act.put]
      have E0 : (wr.alloc (.cells #[.int .i64 0, .string ⟨#[]⟩, .slice none 0 0, .slice none 0 0, .int .i64 0] 28)).setRow wr.heap.size #[.int .i64 k', .string t', mv', lv', .int .i64 p'] = wr.alloc (.cells #[.int .i64 k', .string t', mv', lv', .int .i64 p'] 28) := setRow_new _ _ _ _
      rw [E0]
      clear E0 e0 e1 e2 e3 e4
      have F4 := Lib.hid (alloc_at wr (.cells #[.int .i64 k', .string t', mv', lv', .int .i64 p'] 28))
      have hle2 : wr.heap.size < (wr.alloc (.cells #[.int .i64 k', .string t', mv', lv', .int .i64 p'] 28)).heap.size := by simp
      have FX := Lib.hid (show (wr.alloc (.cells #[.int .i64 k', .string t', mv', lv', .int .i64 p'] 28)).cell? ⟨w.heap.size, 3, none⟩ = some (.slice (some ⟨w.heap.size + 1 + 1, 0, none⟩) l.length l.length) by
        rw [Lib.cell_of_heap ((Lib.alloc_old _ _ _ (by omega)).trans BX.out)]; rfl)
      obtain ⟨W2, hW2⟩ : ∃ W2, W2 = wr.alloc (.cells #[.int .i64 k', .string t', mv', lv', .int .i64 p'] 28) := ⟨_, rfl⟩
      rw [← hW2] at F3 F4 hle2 FX ⊢
      have HW2 := Lib.hid hW2
      clear hW2
      have HX := Lib.hid (IH.out l[j] (by have := HS.out; omega) S _ W2.drew (Dt.At.keeps (Keeps.of_below (Below.refl _ _).drew) _ _ F3.out))
      clear IH q1
      refine wp_region_noPanic ?_
      refine wp_region_held_drew (S := fun w' => Below (w.heap.size + 1 + 1) W2 w' ∧ w'.heap[wr.heap.size]? = some (.cells #[.int .i64 k', .string t', mv', lv', .int .i64 p'] 28 (0, 0))) (by kernel_rfl) (⟨(Below.refl _ _).drew, F4.out⟩) (fun hHeld => ?_)
      refine wpAnyH_take (i := 0) (v := Value.pointer (some ⟨w.heap.size, 3, none⟩)) rfl (by kernel_rfl) (by kernel_rfl) (by kernel_rfl) (fun _ _ _ h => h) (Or.inl ⟨rfl, fun w' hw' => ?_⟩) hHeld ?_
      · go_simp
      simp only [List.getElem_toArray, List.getElem_cons_succ, List.getElem_cons_zero, Act.put, List.setIfInBounds_toArray, List.set_cons_zero, List.set_cons_succ]
      refine wpAnyH_take (i := 1) (v := Value.slice (some ⟨w.heap.size + 1 + 1, 0, none⟩) l.length l.length) rfl (by kernel_rfl) (by kernel_rfl) (by kernel_rfl) (fun _ _ _ h => h) (Or.inl ⟨rfl, fun w' hw' => ?_⟩) hHeld ?_
      · have c := (hw'.1.cell (p := ⟨w.heap.size, 3, none⟩) (by show w.heap.size < _; omega)).trans FX.out; go_simp
      simp only [List.getElem_toArray, List.getElem_cons_succ, List.getElem_cons_zero, Act.put, List.setIfInBounds_toArray, List.set_cons_zero, List.set_cons_succ]
      refine wpAnyH_take (i := 2) (v := Value.int .i64 j) rfl (by kernel_rfl) (by kernel_rfl) (by kernel_rfl) (fun _ _ _ h => h) (Or.inl ⟨rfl, fun w' hw' => ?_⟩) hHeld ?_
      · go_simp
      simp only [List.getElem_toArray, List.getElem_cons_succ, List.getElem_cons_zero, Act.put, List.setIfInBounds_toArray, List.set_cons_zero, List.set_cons_succ]
      refine wpAnyH_take (i := 3) rfl (by kernel_rfl) (by kernel_rfl) (by kernel_rfl) (fun _ _ _ h => h) (yieldsIf_load_mid (by rfl) _ _ rfl wr.heap.size 0 rfl [.int .i64 k', .string t', mv', lv', .int .i64 p'] _ (fun w' hw' => row_range hw'.2) Try.underlying28 rfl info28) hHeld ?_
      simp only [List.getElem_toArray, List.getElem_cons_succ, List.getElem_cons_zero, Act.put, List.setIfInBounds_toArray, List.set_cons_zero, List.set_cons_succ]
      refine wpAnyH_ready (rs := [4]) (by kernel_rfl) (by simp) ?_
      refine (AllReadyH.cons rfl (fun K hK => ?_) AllReadyH.nil)
      go_simp
      refine HX.out.mono ?_
      rintro e w7 ⟨k5, t5, mv5, lv5, p5, rfl, hat, hs2, hb⟩
      have o3 := (At_one hat).1
      have o4 := (At_one hat).2
      have HSN := Lib.hid (sh_more hlt HSH.out hbs HB.out HW2.out hs2 hb (mv5 := mv5) (k5 := k5) (t5 := t5) (p5 := p5))
      clear hs2
      obtain ⟨hth, hS7, he7, hS9, he9, hP⟩ := plain_more hlt BX.out RS.out FI.out HB.out hbs HW2.out hat hb
      have HP := Lib.hid hP
      have H9 := Lib.hid hS9
      have E9 := Lib.hid he9
      have TH := Lib.hid hth
      refine hK.out _ _ ⟨hS7, he7⟩ (fun hHeld => ?_)
      clear hK K hat hb hP hS9 he9 hth hS7 he7
      try simp only [List.getElem_toArray, List.getElem_cons_succ, List.getElem_cons_zero, Act.put, List.setIfInBounds_toArray, List.set_cons_zero, List.set_cons_succ]
      refine wpAnyH_take (i := 5) (v := Value.pointer (some ⟨w.heap.size + 1 + 1, j * 5, none⟩)) rfl (by kernel_rfl) (by kernel_rfl) (by kernel_rfl) (fun _ _ _ h => h) (Or.inl ⟨rfl, fun w' hw' => ?_⟩) hHeld ?_
      · go_simp
      simp only [List.getElem_toArray, List.getElem_cons_succ, List.getElem_cons_zero, Act.put, List.setIfInBounds_toArray, List.set_cons_zero, List.set_cons_succ]
      refine wpAnyH_ready (rs := [6]) (by kernel_rfl) (by simp) ?_
      refine (AllReadyH.cons rfl (fun K hK => ?_) AllReadyH.nil)
      rw [if_pos (by rfl)]
      refine wp_store_mid 28 _ _ rfl (w.heap.size + 1 + 1) (j * 5) #[.int .i64 k5, .string t5, mv5, lv5, .int .i64 p5] rfl rfl TH.out info28 (by simp [Value.oneCell'] at o3 o4 ⊢; exact ⟨o3, o4⟩) ?_
      refine hK.out _ _ ⟨H9.out, E9.out⟩ (fun hHeld => ?_)
      clear hK K TH
      try simp only [List.getElem_toArray, List.getElem_cons_succ, List.getElem_cons_zero, Act.put, List.setIfInBounds_toArray, List.set_cons_zero, List.set_cons_succ]
      refine wpAnyH_done (by kernel_rfl) ?_ _
      refine NoPanic.normal ?_
      clear hHeld
      go_wp2_with fail
      go_roundw
      case rel => exact ⟨HP.out, HSN.out⟩
      case measure => simp [intOf]; omega
    · obtain rfl : j = l.length := by omega
      have q1 : decide ((l.length : Int) < (l.length : Int)) = false := decide_eq_false (by omega)
      have hF := FI.out
      rw [List.take_length] at hF
      have HF := Lib.hid hF
      clear hF FI hlt
      go_wp2_with (first | (refine wpList_load_row rfl 28 _ rfl w.heap.size rfl 28 #[.int .i64 k, .string t, .slice none 0 0, .slice (some ⟨w.heap.size + 1 + 1, 0, none⟩) l.length l.length, .int .i64 p] (0, 0) _ BX.out Try.underlying28 rfl info28 ?_) | (refine wpList_store_row rfl 28 _ _ rfl (w.heap.size + 1) #[.int .i64 k, .string t, .slice none 0 0, .slice (some ⟨w.heap.size + 1 + 1, 0, none⟩) l.length l.length, .int .i64 p] rfl rfl 28 Z5 RS.out info28 rfl (by simp [Value.oneCell']) ?_))
      refine bodyPost_ret (results_cell_row rfl _ _ (w.heap.size + 1) 28 #[.int .i64 k, .string t, .slice none 0 0, .slice (some ⟨w.heap.size + 1 + 1, 0, none⟩) l.length l.length, .int .i64 p] (0, 0) _ rfl (setRow_heap wr _ _ _ 28 _ RS.out) Try.underlying28 rfl info28) rfl ?_
      refine ⟨_, _, _, _, _, rfl, ?_, sh_end HSH.out (by omega) _, below_setRow HB.out _ _ (by omega)⟩
      rw [At_mk]
      refine ⟨_, _, rfl, .inl ⟨rfl, rfl⟩, ?_⟩
      refine LAt.mono (LAt.keeps (HF.out.at (Nat.le_refl _) (plains_length l)) ?_) (fun g (hg : w.heap.size + 1 + 1 ≤ g) => by omega)
      intro g c T fz hs hg _
      exact ⟨fz, by rw [setRow_other wr _ g _ (by have : w.heap.size + 1 + 1 ≤ g := hs; omega)]; exact hg⟩

theorem plainS_any (n : Nat) : n ≤ 1000000 → ∀ (d : Dt), d.size ≤ n → ∀ (S : Nat → Prop) (cs : Array Value) (w : World), Dt.At S w d cs → Calls Try.prog 15 #[.agg cs] w (RetS d.plain d.parts.length w) := by
  induction n with
  | zero => intro _ d hd; cases d; simp [Dt.size] at hd
  | succ n ih =>
    intro hn d hd S cs w hat
    obtain ⟨k, t, ms, l, p⟩ := d
    rw [At_mk] at hat
    obtain ⟨mv, lv, rfl, hm, hl⟩ := hat
    obtain ⟨ao, cap, rfl⟩ := hl.form
    rw [Dt.plain]
    by_cases h0 : l = []
    · subst h0
      refine (plain_nil k t mv ao cap p hm.one w).mono ?_
      rintro e w' ⟨rfl, hb⟩
      exact ⟨_, _, _, _, _, rfl, leaf_at _ _ _ _ _, .inl ⟨rfl, rfl⟩, hb⟩
    · exact plainS_list n (by omega) (ih (by omega)) k t mv l p hm.one (by simp only [Dt.size] at hd; omega) (List.length_pos_iff.2 h0) S ao cap w hl
end Go.Proofs.Ytlkpddokmibkiaa
