/- The contract of text: a number written. -/
import Derived.Test.YtebadokchhnmfaaDoorG1
import Derived.Test.YtebadokchhnmfaaDoorT1
namespace Go.Proofs.YtebadokchhnmfaaDoor
open Go.RowKit Go.BigM
set_option linter.unusedVariables false

/-- What is answered: a text, and whether there is one. -/
def RetT (w : World) (b : Bool) (v : Nat) (e : Ending) (w' : World) : Prop :=
  e = .returned (.tuple #[.string ⟨(txt b v).toArray⟩, .bool (decide (v < Lim))]) ∧ Below w.heap.size w w'

theorem neg_str (t : ByteArray) : (⟨#[45]⟩ ++ t : ByteArray) = ⟨(45 :: t.data.toList).toArray⟩ := by
  have := ByteArray.mk_append_mk [45] t.data.toList
  rw [Lib.mk_data] at this
  exact this
theorem digits_str (g off : Nat) (L : List Nat) (hL : L.length = 46) (sL : Small L) (w : World) (hg : g < w.heap.size) (hc : ∀ j, j < 46 → w.cell? ⟨g, off + j, none⟩ = some (.int .u32 (lg L j : Nat))) :
    Calls Tryd.prog 48 #[.pointer (some ⟨g, off, none⟩)] w fun e w' => ∃ s : ByteArray, e = .returned (.string s) ∧ s.size ≤ 5000 ∧ s.data.toList.dropWhile (· == 48) = digs (lval L) ∧ Below w.heap.size w w' :=
  (digits_any g off L hL sL w hg hc).mono fun e w' ⟨D, he, hd, hv, hl, hb⟩ => ⟨⟨D.toArray⟩, he, by rw [Lib.size_mk]; omega, by rw [← hv]; exact trim_digs D hd, hb⟩

theorem trimLeft_t (s t : ByteArray) (h : s.data.toList.dropWhile (· == 48) = t.data.toList) (w : World) (hl : s.size ≤ 5000) :
    Calls Tryd.prog 47 #[.string s, .string ⟨#[48]⟩] w fun e w' => e = .returned (.string t) ∧ w = w' := by
  have := trimLeft_any s w hl
  rw [h, Lib.mk_data] at this
  exact this

set_option maxHeartbeats 1000000 in
set_option maxRecDepth 100000 in
theorem text_zero (b : Bool) (L : List Nat) (hL : L.length = 46) (sL : Small L) (hv : lval L = 0) (w : World) : Calls Tryd.prog 32 #[.agg (Nm b L)] w (RetT w b (lval L)) := by
  have HL := Lib.hid hL
  have HV := Lib.hid hv
  clear hL hv
  go_enter Tryd.func32, Tryd.ntmps32
  go_wp2_with fail
  have r0 : NRow (w.alloc (.cells (Nm b L) 49)) w.heap.size b L := NRow.new w b L _ rfl
  have b0 : Below w.heap.size w (w.alloc (.cells (Nm b L) 49)) := (Below.refl _ _).alloc (Nat.le_refl _) _
  have hz : w.heap.size < (w.alloc (.cells (Nm b L) 49)).heap.size := by simp
  generalize w.alloc (.cells (Nm b L) 49) = W at r0 b0 hz ⊢
  refine (digits_str w.heap.size 1 L HL.out sL W hz (r0.cells 46 (by rw [HL.out]; omega))).mono ?_
  rintro e w1 ⟨s, rfl, hs, ht, hb⟩
  have B1 : Hid (Below w.heap.size w w1) := b0.trans (hb.mono b0.size)
  have S1 : Hid (NRow w1 w.heap.size b L) := r0.below hb hz
  have T1 := Lib.hid ht
  clear hb r0 b0 ht hz
  go_wp2_with fail
  refine (trimLeft_t s ⟨#[]⟩ (by rw [T1.out, HV.out, digs_zero]) _ hs).mono ?_
  rintro e w' ⟨rfl, rfl⟩
  go_wp2_with fail
  go_ret2
  refine ⟨?_, B1.out⟩
  rw [HV.out]
  rfl
set_option maxHeartbeats 1000000 in
set_option maxRecDepth 100000 in
theorem text_big (L : List Nat) (hL : L.length = 46) (sL : Small L) (hv : ¬ lval L < Lim) (b : Bool) (w : World) : Calls Tryd.prog 32 #[.agg (Nm b L)] w (RetT w b (lval L)) := by
  obtain ⟨t, ht⟩ : ∃ t : ByteArray, t.data.toList = digs (lval L) := ⟨⟨(digs (lval L)).toArray⟩, rfl⟩
  have hts : 200 < t.size := by rw [Lib.size_eq, ht]; have := Lim_len (lval L); omega
  have e1 : t.toList.isEmpty = false := by
    rw [Lib.toList_data]; cases hd : t.data.toList with
    | nil => rw [Lib.size_eq, hd] at hts; simp at hts
    | cons a m => rfl
  have e2 : decide (200 < (t.size : Int)) = true := decide_eq_true (by omega)
  have HV := Lib.hid hv
  clear hts hv
  have HT := Lib.hid ht
  have HL := Lib.hid hL
  have n0 := Nm_sign b L
  clear ht hL
  go_enter Tryd.func32, Tryd.ntmps32
  go_wp2_with fail
  have r0 : NRow (w.alloc (.cells (Nm b L) 49)) w.heap.size b L := NRow.new w b L _ rfl
  have b0 : Below w.heap.size w (w.alloc (.cells (Nm b L) 49)) := (Below.refl _ _).alloc (Nat.le_refl _) _
  have hz : w.heap.size < (w.alloc (.cells (Nm b L) 49)).heap.size := by simp
  generalize w.alloc (.cells (Nm b L) 49) = W at r0 b0 hz ⊢
  refine (digits_str w.heap.size 1 L HL.out sL W hz (r0.cells 46 (by rw [HL.out]; omega))).mono ?_
  rintro e w1 ⟨s, rfl, hs, hts, hb⟩
  have B1 : Hid (Below w.heap.size w w1) := b0.trans (hb.mono b0.size)
  have c1 : w1.cell? ⟨w.heap.size, 0, none⟩ = some (.bool b) := (r0.below hb hz).sign
  have T1 := Lib.hid hts
  clear hb r0 b0 hts hz
  go_wp2_with fail
  refine (trimLeft_t s t (by rw [T1.out, HT.out]) _ hs).mono ?_
  rintro e w' ⟨rfl, rfl⟩
  go_wp2_with fail
  go_ret2
  refine ⟨?_, B1.out⟩
  have h0 : lval L ≠ 0 := by intro h; apply HV.out; rw [h]; unfold Lim; exact Nat.pow_pos (by decide)
  rw [decide_eq_false HV.out]
  unfold txt
  rw [if_neg h0, if_neg HV.out]
  rfl
set_option maxHeartbeats 1000000 in
set_option maxRecDepth 100000 in
theorem text_low (L : List Nat) (hL : L.length = 46) (sL : Small L) (h0 : lval L ≠ 0) (hv : lval L < Lim) (w : World) : Calls Tryd.prog 32 #[.agg (Nm true L)] w (RetT w true (lval L)) := by
  obtain ⟨t, ht⟩ : ∃ t : ByteArray, t.data.toList = digs (lval L) := ⟨⟨(digs (lval L)).toArray⟩, rfl⟩
  have hts : t.size ≤ 200 := by rw [Lib.size_eq, ht]; exact (Lim_len _).2 hv
  have e1 : t.toList.isEmpty = false := by
    rw [Lib.toList_data]; cases hd : t.data.toList with
    | nil => exact absurd (ht.symm.trans hd) (digs_ne _ h0)
    | cons a m => rfl
  have e2 : decide (200 < (t.size : Int)) = false := decide_eq_false (by omega)
  have HV := Lib.hid hv
  have H0 := Lib.hid h0
  clear hv h0
  have HT := Lib.hid ht
  have HL := Lib.hid hL
  have n0 := Nm_sign true L
  clear ht hL
  go_enter Tryd.func32, Tryd.ntmps32
  go_wp2_with fail
  have r0 : NRow (w.alloc (.cells (Nm true L) 49)) w.heap.size true L := NRow.new w true L _ rfl
  have b0 : Below w.heap.size w (w.alloc (.cells (Nm true L) 49)) := (Below.refl _ _).alloc (Nat.le_refl _) _
  have hz : w.heap.size < (w.alloc (.cells (Nm true L) 49)).heap.size := by simp
  generalize w.alloc (.cells (Nm true L) 49) = W at r0 b0 hz ⊢
  refine (digits_str w.heap.size 1 L HL.out sL W hz (r0.cells 46 (by rw [HL.out]; omega))).mono ?_
  rintro e w1 ⟨s, rfl, hs, hts, hb⟩
  have B1 : Hid (Below w.heap.size w w1) := b0.trans (hb.mono b0.size)
  have c1 : w1.cell? ⟨w.heap.size, 0, none⟩ = some (.bool true) := (r0.below hb hz).sign
  have T1 := Lib.hid hts
  clear hb r0 b0 hts hz
  go_wp2_with fail
  refine (trimLeft_t s t (by rw [T1.out, HT.out]) _ hs).mono ?_
  rintro e w' ⟨rfl, rfl⟩
  go_wp2_with fail
  go_ret2
  refine ⟨?_, B1.out⟩
  rw [decide_eq_true HV.out]
  unfold txt
  rw [if_neg H0.out, if_pos HV.out, ← HT.out]
  show Ending.returned (.tuple #[.string (⟨#[45]⟩ ++ t), .bool true]) = _
  rw [neg_str]; rfl
set_option maxHeartbeats 1000000 in
set_option maxRecDepth 100000 in
theorem text_high (L : List Nat) (hL : L.length = 46) (sL : Small L) (h0 : lval L ≠ 0) (hv : lval L < Lim) (w : World) : Calls Tryd.prog 32 #[.agg (Nm false L)] w (RetT w false (lval L)) := by
  obtain ⟨t, ht⟩ : ∃ t : ByteArray, t.data.toList = digs (lval L) := ⟨⟨(digs (lval L)).toArray⟩, rfl⟩
  have hts : t.size ≤ 200 := by rw [Lib.size_eq, ht]; exact (Lim_len _).2 hv
  have e1 : t.toList.isEmpty = false := by
    rw [Lib.toList_data]; cases hd : t.data.toList with
    | nil => exact absurd (ht.symm.trans hd) (digs_ne _ h0)
    | cons a m => rfl
  have e2 : decide (200 < (t.size : Int)) = false := decide_eq_false (by omega)
  have HV := Lib.hid hv
  have H0 := Lib.hid h0
  clear hv h0
  have HT := Lib.hid ht
  have HL := Lib.hid hL
  have n0 := Nm_sign false L
  clear ht hL
  go_enter Tryd.func32, Tryd.ntmps32
  go_wp2_with fail
  have r0 : NRow (w.alloc (.cells (Nm false L) 49)) w.heap.size false L := NRow.new w false L _ rfl
  have b0 : Below w.heap.size w (w.alloc (.cells (Nm false L) 49)) := (Below.refl _ _).alloc (Nat.le_refl _) _
  have hz : w.heap.size < (w.alloc (.cells (Nm false L) 49)).heap.size := by simp
  generalize w.alloc (.cells (Nm false L) 49) = W at r0 b0 hz ⊢
  refine (digits_str w.heap.size 1 L HL.out sL W hz (r0.cells 46 (by rw [HL.out]; omega))).mono ?_
  rintro e w1 ⟨s, rfl, hs, hts, hb⟩
  have B1 : Hid (Below w.heap.size w w1) := b0.trans (hb.mono b0.size)
  have c1 : w1.cell? ⟨w.heap.size, 0, none⟩ = some (.bool false) := (r0.below hb hz).sign
  have T1 := Lib.hid hts
  clear hb r0 b0 hts hz
  go_wp2_with fail
  refine (trimLeft_t s t (by rw [T1.out, HT.out]) _ hs).mono ?_
  rintro e w' ⟨rfl, rfl⟩
  go_wp2_with fail
  go_ret2
  refine ⟨?_, B1.out⟩
  rw [decide_eq_true HV.out]
  unfold txt
  rw [if_neg H0.out, if_pos HV.out, ← HT.out]
  rw [if_neg Bool.false_ne_true, Lib.mk_data]; rfl

theorem text_any (b : Bool) (L : List Nat) (hL : L.length = 46) (sL : Small L) (w : World) : Calls Tryd.prog 32 #[.agg (Nm b L)] w (RetT w b (lval L)) := by
  by_cases h0 : lval L = 0
  · exact text_zero b L hL sL h0 w
  · by_cases hv : lval L < Lim
    · cases b with
      | true => exact text_low L hL sL h0 hv w
      | false => exact text_high L hL sL h0 hv w
    · exact text_big L hL sL hv b w
end Go.Proofs.YtebadokchhnmfaaDoor
