/- Contracts of Text and Size, at any datum. -/
import Derived.Test.YtlkpddokmibkiaaE1
namespace Go.Proofs.Ytlkpddokmibkiaa
open Go.RowKit
set_option linter.unusedVariables false
set_option linter.unusedSimpArgs false

set_option maxHeartbeats 2000000 in
theorem text_any (d : Dt) (S : Nat → Prop) (cs : Array Value) (w : World) (h : Dt.At S w d cs) (hn : d.size ≤ 1000000000) (hl : d.txt.length ≤ 140737488355328) :
    Calls Try.prog 17 #[.agg cs] w (RetTxt w.heap.size d.txt w) := by
  have h0 := h
  obtain ⟨k, t, ms, lst, p⟩ := d
  rw [At_mk] at h0
  obtain ⟨mv, lv, rfl, hm, hlv⟩ := h0
  have o1 := hm.one
  have o2 := hlv.one
  generalize hd : Dt.mk k t ms lst p = d at *
  have K0 := Lib.hid ((Below.refl w.heap.size w).alloc (Nat.le_refl _) (.cells #[.int .i64 k, .string t, mv, lv, .int .i64 p] 28))
  have K1 := Lib.hid (Dt.At.keeps (Keeps.of_below K0.out) _ _ h)
  have K2 := Lib.hid (alloc_at w (.cells #[.int .i64 k, .string t, mv, lv, .int .i64 p] 28))
  have K3 : (w.alloc (.cells #[.int .i64 k, .string t, mv, lv, .int .i64 p] 28)).heap.size = w.heap.size + 1 := by simp
  clear h hm hlv hd
  go_enter Try.func17, Try.ntmps17
  go_wp2_with fail
  generalize w.alloc (.cells #[.int .i64 k, .string t, mv, lv, .int .i64 p] 28) = W at K0 K1 K2 K3 ⊢
  have F0 := Lib.hid (Wr.fresh W)
  have F1 := Lib.hid (Dt.At.keeps (Keeps.of_below ((Below.refl W.heap.size W).alloc (Nat.le_refl _) (.cells #[.pointer none, .slice none 0 0] 54))) _ _ K1.out)
  have F2 := Lib.hid ((K0.out).alloc (by omega) (.cells #[.pointer none, .slice none 0 0] 54))
  rw [K3] at F0
  have F3 : w.heap.size + 1 ≤ (W.alloc (.cells #[.pointer none, .slice none 0 0] 54)).heap.size := by simp; omega
  generalize W.alloc (.cells #[.pointer none, .slice none 0 0] 54) = W2 at F0 F1 F2 F3 ⊢
  refine (datum_any _ hn d (Nat.le_refl _) (w.heap.size + 1) (w.heap.size + 1) [] S _ W2 F1.out F0.out (by simpa using hl) F3).mono ?_
  rintro e w3 ⟨rfl, hW, hF⟩
  have G0 := Lib.hid (show Wr (w.heap.size + 1) (w.heap.size + 1) d.txt w3 by simpa using hW)
  have G1 := Lib.hid (F2.out.trans (hF.1.mono (by omega)))
  have G2 : w.heap.size + 1 ≤ w3.heap.size := by have := hF.1.size; omega
  clear hW hF
  go_wp2_with fail
  refine (text_of (w.heap.size + 1) (w.heap.size + 1) d.txt w3 G0.out G2).mono ?_
  rintro e w4 ⟨rfl, hb⟩
  have G3 := Lib.hid (G1.out.trans (hb.mono (by omega)))
  clear hb
  obtain ⟨T, hT⟩ : ∃ T : ByteArray, T = ⟨d.txt.toArray⟩ := ⟨_, rfl⟩
  rw [← hT]
  have HT := Lib.hid hT
  clear hT
  go_wp2
  go_ret
  exact ⟨by rw [← HT.out]; rfl, G3.out⟩

theorem sizes_take (l : List Dt) (j : Nat) (h : j < l.length) : Dt.sizes (l.take (j + 1)) = Dt.sizes (l.take j) + l[j].size := by
  have hs : ∀ (a b : List Dt), Dt.sizes (a ++ b) = Dt.sizes a + Dt.sizes b := by
    intro a b
    induction a with
    | nil => simp [Dt.sizes]
    | cons d a ih => simp only [List.cons_append, Dt.sizes, ih]; omega
  rw [take_snoc_dt l j h, hs]
  simp [Dt.sizes]
theorem sizes_take_le (l : List Dt) (j : Nat) : Dt.sizes (l.take j) ≤ Dt.sizes l := by
  induction l generalizing j with
  | nil => simp
  | cons d l ih =>
    cases j with
    | zero => simp [Dt.sizes]
    | succ j => have := ih j; simp only [List.take_succ_cons, Dt.sizes]; omega
/-- It returns this number; what was there stands. -/
def RetInt (r : Int) (w : World) (e : Ending) (w' : World) : Prop := e = .returned (.int .i64 r) ∧ Below w.heap.size w w'
/-- The loop of Size. -/
def SInv (l : List Dt) (w : World) (sv iv : Value) (wr : World) : Prop :=
  ∃ j : Nat, j ≤ l.length ∧ iv = .int .i64 j ∧ sv = .int .i64 ((1 + Dt.sizes (l.take j) : Nat) : Int) ∧ Below w.heap.size w wr

set_option maxHeartbeats 4000000 in
theorem size_any (n : Nat) : n ≤ 1000000000 → ∀ (d : Dt), d.size ≤ n → ∀ (S : Nat → Prop) (cs : Array Value) (w : World), Dt.At S w d cs →
    Calls Try.prog 22 #[.agg cs] w (RetInt (d.size : Int) w) := by
  induction n with
  | zero => intro _ d hd; cases d; simp [Dt.size] at hd
  | succ n ih0 =>
    intro hn d hd S cs w hat
    have ih := ih0 (by omega)
    clear ih0
    obtain ⟨k, t, ms, lst, p⟩ := d
    rw [At_mk] at hat
    obtain ⟨mv, lv, rfl, hm, hl⟩ := hat
    have IH : Hid (∀ (d : Dt), d.size ≤ n → ∀ (S : Nat → Prop) (cs : Array Value) (w : World), Dt.At S w d cs → Calls Try.prog 22 #[.agg cs] w (RetInt (d.size : Int) w)) := ih
    have hsz : Dt.sizes lst ≤ n := by simp only [Dt.size] at hd; omega
    have hln := length_sizes lst
    have hm1 := hm.one
    have hl1 := hl.one
    have HB := Lib.hid ((Below.refl w.heap.size w).alloc (Nat.le_refl _) (.cells #[.int .i64 k, .string t, mv, lv, .int .i64 p] 28))
    have HL := Lib.hid (hl.keeps (Keeps.of_below HB.out))
    have hds : (Dt.mk k t ms lst p).size = 1 + Dt.sizes lst := by simp [Dt.size]
    rw [hds]
    clear ih hm hd hds
    obtain ⟨ao, cap, rfl⟩ := hl.form
    clear hl
    go_enter Try.func22, Try.ntmps22
    go_wp2_with fail
    generalize w.alloc (.cells #[.int .i64 k, .string t, mv, .slice ao lst.length cap, .int .i64 p] 28) = W at HB HL ⊢
    go_loopw [3, 9] (fun sv iv wr => SInv lst W sv iv wr) (fun _ iv _ => lst.length - (intOf iv).toNat)
    case atStart => exact ⟨0, Nat.zero_le _, rfl, by simp [Dt.sizes], Below.refl _ _⟩
    case round =>
      obtain ⟨j, hj, rfl, rfl, hb⟩ := hrel
      have G2 := Lib.hid hb
      have G3 := Lib.hid (HL.out.keeps (Keeps.of_below hb))
      have hBr : W.heap.size ≤ wr.heap.size := hb.size
      have hle := sizes_take_le lst j
      clear hb
      by_cases hlt : j < lst.length
      · obtain ⟨g, o, k', t', mv', lv', p', rfl, hS, -, hat, e0, e1, e2, e3, e4, o1, o2⟩ := G3.out.get j hlt
        have G4 := Lib.hid hat
        have z1 : (#[.int .i64 k', .string t', mv', lv', .int .i64 p'] : Array Value).all (·.oneCell') = true := by simp [Value.oneCell'] at o1 o2 ⊢; exact ⟨o1, o2⟩
        have hsj := size_get lst j hlt
        have hst := sizes_take lst j hlt
        have hle2 := sizes_take_le lst (j + 1)
        have HST := Lib.hid hst
        have hle3 : Dt.sizes (lst.take j) + lst[j].size ≤ Dt.sizes lst := by omega
        clear hat hst hle2
        go_upto_region 5 with (refine wpList_store_row rfl 28 _ _ rfl wr.heap.size #[.int .i64 k', .string t', mv', lv', .int .i64 p'] rfl rfl 28 Z5 (alloc_at _ _) info28 rfl z1 ?_)
        simp only [Act.put]
        have E0 : (wr.alloc (.cells #[.int .i64 0, .string ⟨#[]⟩, .slice none 0 0, .slice none 0 0, .int .i64 0] 28)).setRow wr.heap.size #[.int .i64 k', .string t', mv', lv', .int .i64 p'] = wr.alloc (.cells #[.int .i64 k', .string t', mv', lv', .int .i64 p'] 28) := setRow_new _ _ _ _
        rw [E0]
        clear E0 e0 e1 e2 e3 e4
        have F0 := (Below.refl wr.heap.size wr).alloc (Nat.le_refl _) (.cells #[.int .i64 k', .string t', mv', lv', .int .i64 p'] 28)
        have F2 := Lib.hid (G2.out.trans (F0.mono hBr))
        have F3 := Lib.hid (Dt.At.keeps (Keeps.of_below F0) _ _ G4.out)
        have F4 := Lib.hid (alloc_at wr (.cells #[.int .i64 k', .string t', mv', lv', .int .i64 p'] 28))
        have F5 : W.heap.size ≤ (wr.alloc (.cells #[.int .i64 k', .string t', mv', lv', .int .i64 p'] 28)).heap.size := by simp; omega
        generalize wr.alloc (.cells #[.int .i64 k', .string t', mv', lv', .int .i64 p'] 28) = W2 at F2 F3 F4 F5 ⊢
        clear G4 F0
        obtain ⟨sj, hsj'⟩ : ∃ s, s = lst[j].size := ⟨_, rfl⟩
        obtain ⟨st, hst'⟩ : ∃ s, s = Dt.sizes (lst.take j) := ⟨_, rfl⟩
        rw [← hsj', ← hst'] at hle3
        have HC := Lib.hid (IH.out lst[j] (by omega) S _ W2 F3.out)
        rw [← hsj'] at HC hsj
        rw [← hst'] at hle ⊢
        have HSJ := Lib.hid hsj'
        have HST2 := Lib.hid hst'
        clear hsj' hst'
        go_wp2_with (first | (refine wpList_load_row rfl 28 _ rfl wr.heap.size rfl 28 #[.int .i64 k', .string t', mv', lv', .int .i64 p'] (0, 0) _ F4.out Try.underlying28 rfl info28 ?_))
        refine HC.out.mono ?_
        rintro e w4 ⟨rfl, hb4⟩
        have HN := Lib.hid (show SInv lst W (.int .i64 (1 + (st : Int) + (sj : Int))) (.int .i64 ((j : Int) + 1)) w4 from ⟨j + 1, by omega, by go_num, by rw [HST.out, ← HSJ.out, ← HST2.out]; congr 1; omega, F2.out.trans (hb4.mono F5)⟩)
        clear hb4
        go_wp2_with fail
        go_roundw
        case rel => exact HN.out
        case measure => simp [intOf]; omega
      · obtain rfl : j = lst.length := by omega
        have hend : Dt.sizes (lst.take lst.length) = Dt.sizes lst := by rw [List.take_length]
        rw [hend] at hle ⊢
        clear hend hlt
        have H1 := Lib.hid (HB.out.trans (G2.out.mono HB.out.size))
        obtain ⟨st, hst'⟩ : ∃ s, s = Dt.sizes lst := ⟨_, rfl⟩
        rw [← hst']
        have HST2 := Lib.hid hst'
        clear hst'
        go_wp2
        go_ret
        exact ⟨by rw [← HST2.out]; rfl, H1.out⟩
end Go.Proofs.Ytlkpddokmibkiaa
