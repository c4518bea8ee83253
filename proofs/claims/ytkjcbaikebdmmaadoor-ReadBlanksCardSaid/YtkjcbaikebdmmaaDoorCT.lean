/- The document's Text and Is. -/
import Derived.Test.YtkjcbaikebdmmaaDoorW9
import Derived.Test.YtkjcbaikebdmmaaDoorJ19
namespace Go.Proofs.YtkjcbaikebdmmaaDoor
open Go.RowKit
set_option linter.unusedVariables false
set_option linter.unusedSimpArgs false
theorem txtr_append : ∀ (l m : List Dt), Dt.txtr (l ++ m) = Dt.txtr l ++ Dt.txtr m
  | [], m => by simp [Dt.txtr]
  | d :: l, m => by simp [Dt.txtr, txtr_append l m, List.append_assoc]
theorem txts_snoc (l : List Dt) (d : Dt) : Dt.txts (l ++ [d]) = Dt.txts l ++ (if l = [] then [] else [32]) ++ d.txt := by
  cases l with
  | nil => simp [Dt.txts, Dt.txtr]
  | cons a l => simp [Dt.txts, txtr_append, Dt.txtr, List.append_assoc]
theorem txts_take (l : List Dt) (j : Nat) (h : j < l.length) : Dt.txts (l.take (j + 1)) = Dt.txts (l.take j) ++ (if j = 0 then [] else [32]) ++ l[j].txt := by
  rw [take_snoc_dt l j h, txts_snoc]
  by_cases h0 : j = 0
  · subst h0; simp
  · have : l.take j ≠ [] := by
      intro e
      have := congrArg List.length e
      rw [List.length_take, List.length_nil] at this; omega
    simp [this, h0]
theorem txts_le (l : List Dt) (j : Nat) : (Dt.txts (l.take j)).length ≤ (Dt.txts l).length := by
  cases l with
  | nil => simp
  | cons d l =>
    cases j with
    | zero => simp [Dt.txts]
    | succ j =>
      have e := txtr_append (l.take j) (l.drop j)
      rw [List.take_append_drop] at e
      simp only [List.take_succ_cons, Dt.txts, List.length_append, e]; omega
theorem txts_le2 (l : List Dt) (j : Nat) (h : j < l.length) : (Dt.txts (l.take j)).length + (if j = 0 then 0 else 1) + l[j].txt.length ≤ (Dt.txts l).length := by
  have h1 := txts_le l (j + 1)
  rw [txts_take l j h] at h1
  split at h1
  · rename_i h0; simp [h0] at h1 ⊢; omega
  · rename_i h0; simp [h0] at h1 ⊢; omega
def RetStr (s : ByteArray) (w : World) (e : Ending) (w' : World) : Prop := e = .returned (.string s) ∧ Below w.heap.size w w'
/-- The loop of thunkref2.Text. -/
def RTInv (l : List Dt) (w : World) (sv iv : Value) (wr : World) : Prop :=
  ∃ j : Nat, j ≤ l.length ∧ iv = .int .i64 j ∧ sv = .string ⟨(40 :: Dt.txts (l.take j)).toArray⟩ ∧ Below w.heap.size w wr
theorem rt_more {l : List Dt} {w wr : World} {j : Nat} (hlt : j < l.length) {X tx : ByteArray} (htx : tx = ⟨l[j].txt.toArray⟩) (hX : X = ⟨(40 :: (Dt.txts (l.take j) ++ (if j = 0 then [] else [32]))).toArray⟩) (hb : Below w.heap.size w wr) :
    RTInv l w (.string (X ++ tx)) (.int .i64 ((j : Int) + 1)) wr := by
  refine ⟨j + 1, by omega, by go_num, ?_, hb⟩
  rw [hX, htx, str_app, txts_take l j hlt]
  simp
set_option maxHeartbeats 4000000 in
theorem reftext_any (n : Nat) : n ≤ 1000000 → ∀ (d : Dt), d.size ≤ n → d.txt.length ≤ 5000 → ∀ (S : Nat → Prop) (cs : Array Value) (w : World), Dt.At S w d cs →
    Calls Tryd.prog 21 #[.agg cs] w (RetStr ⟨d.txt.toArray⟩ w) := by
  induction n with
  | zero => intro _ d hd; cases d; simp [Dt.size] at hd
  | succ n ih0 =>
    intro hn d hd ht5 S cs w hat
    have IH := Lib.hid (ih0 (by omega))
    clear ih0
    obtain ⟨k, t, ms, l, p⟩ := d
    rw [At_mk] at hat
    obtain ⟨mv, lv, rfl, hm, hl⟩ := hat
    have hsz : Dt.sizes l ≤ n := by simp only [Dt.size] at hd; omega
    have hln := length_sizes l
    have hm1 := hm.one
    have hl1 := hl.one
    have HB := Lib.hid ((Below.refl w.heap.size w).alloc (Nat.le_refl _) (.cells #[.int .i64 k, .string t, mv, lv, .int .i64 p] 40))
    have HL := Lib.hid (hl.keeps (Keeps.of_below HB.out))
    clear hm hd
    obtain ⟨ao, cap, rfl⟩ := hl.form
    clear hl
    by_cases hk : k = 4
    · have q0 : (k != 4) = false := by simp [hk]
      have htx : (Dt.mk k t ms l p).txt = 40 :: (Dt.txts l ++ [41]) := by simp [Dt.txt, hk]
      rw [htx] at ht5 ⊢
      simp only [List.length_cons, List.length_append, List.length_nil] at ht5
      clear htx hk
      have CA : Hid ((w.alloc (.cells #[.int .i64 k, .string t, mv, .slice ao l.length cap, .int .i64 p] 40)).cell? ⟨w.heap.size, 3, none⟩ = some (.slice ao l.length cap)) := by show _ = _; rw [Lib.cell_of_heap (alloc_at w _)]; rfl
      have hsw : w.heap.size < (w.alloc (.cells #[.int .i64 k, .string t, mv, .slice ao l.length cap, .int .i64 p] 40)).heap.size := by simp
      go_enter Tryd.func21, Tryd.ntmps21
      go_wp2_with fail
      clear q0
      generalize w.alloc (.cells #[.int .i64 k, .string t, mv, .slice ao l.length cap, .int .i64 p] 40) = W at HB HL CA hsw ⊢
      go_loopw [3, 4] (fun sv iv wr => RTInv l W sv iv wr) (fun _ iv _ => l.length - (intOf iv).toNat)
      case atStart => exact ⟨0, Nat.zero_le _, rfl, by simp [Dt.txts], Below.refl _ _⟩
      case round =>
        obtain ⟨j, hj, rfl, rfl, hb⟩ := hrel
        have G2 := Lib.hid hb
        have G3 := Lib.hid (HL.out.keeps (Keeps.of_below hb))
        have hBr : W.heap.size ≤ wr.heap.size := hb.size
        have cA := (hb.cell (p := ⟨w.heap.size, 3, none⟩) (by show w.heap.size < _; omega)).trans CA.out
        obtain ⟨X0, hX0⟩ : ∃ X0 : ByteArray, X0 = ⟨(40 :: Dt.txts (l.take j)).toArray⟩ := ⟨_, rfl⟩
        have hle := txts_le l j
        have hx0 : X0.size ≤ 5000 := by rw [hX0]; simp only [ByteArray.size, List.size_toArray, List.length_cons]; omega
        rw [← hX0]
        have HX0 := Lib.hid hX0
        clear hb hX0
        by_cases hlt : j < l.length
        · have q1 : decide ((j : Int) < (l.length : Int)) = true := decide_eq_true (by omega)
          obtain ⟨g, o, k', t', mv', lv', p', rfl, hS, -, hat, e0, e1, e2, e3, e4, o1, o2⟩ := G3.out.get j hlt
          have hsj := size_get l j hlt
          have hle2 := txts_le2 l j hlt
          have HC0 := IH.out l[j] (by omega) (by omega) S _ wr hat
          obtain ⟨tx, htx⟩ : ∃ tx : ByteArray, tx = ⟨l[j].txt.toArray⟩ := ⟨_, rfl⟩
          have htl : tx.size = l[j].txt.length := by rw [htx]; simp only [ByteArray.size, List.size_toArray]
          have hx1 : X0.size = 1 + (Dt.txts (l.take j)).length := by rw [HX0.out]; simp only [ByteArray.size, List.size_toArray, List.length_cons]; omega
          rw [← htx] at HC0
          have HC := Lib.hid HC0
          have HTX := Lib.hid htx
          clear hat hS HC0 htx
          by_cases h0 : j = 0
          · have hxt : X0.size + tx.size ≤ 5000 := by omega
            have htz : tx.size ≤ 5000 := by omega
            have HN := Lib.hid (fun (w4 : World) (hb4 : Below wr.heap.size wr w4) => rt_more (w := W) (wr := w4) hlt HTX.out (X := X0) (by rw [HX0.out]; simp [h0]) (G2.out.trans (hb4.mono hBr)))
            have q2 : decide ((0 : Int) < (j : Int)) = false := decide_eq_false (by omega)
            have q3 : ¬ 0 < j := by omega
            clear h0 hle hle2 htl hx1
            go_wp2_with fail
            refine HC.out.mono ?_
            rintro e w4 ⟨rfl, hb4⟩
            have HN4 := Lib.hid (HN.out w4 hb4)
            clear hb4 e0 e1 e2 e3 e4
            go_wp2_with fail
            go_roundw
            case rel => exact HN4.out
            case measure => simp [intOf]; omega
          · rw [if_neg h0] at hle2
            have hxt : X0.size + 1 + tx.size ≤ 5000 := by omega
            have htz : tx.size ≤ 5000 := by omega
            obtain ⟨X1, hX1⟩ : ∃ X1 : ByteArray, X1 = X0 ++ ⟨#[32]⟩ := ⟨_, rfl⟩
            have hx1z : X1.size = X0.size + 1 := by rw [hX1, HX0.out, str_app1]; simp [ByteArray.size]
            have HN := Lib.hid (fun (w4 : World) (hb4 : Below wr.heap.size wr w4) => rt_more (w := W) (wr := w4) hlt HTX.out (X := X1) (by rw [hX1, HX0.out, str_app1]; simp [h0]) (G2.out.trans (hb4.mono hBr)))
            have q2 : decide ((0 : Int) < (j : Int)) = true := decide_eq_true (by omega)
            have q3 : 0 < j := by omega
            clear h0 hle hle2 htl hx1
            go_wp2_with fail
            rw [← hX1]
            clear hX1
            refine HC.out.mono ?_
            rintro e w4 ⟨rfl, hb4⟩
            have HN4 := Lib.hid (HN.out w4 hb4)
            clear hb4 e0 e1 e2 e3 e4
            go_wp2_with fail
            go_roundw
            case rel => exact HN4.out
            case measure => simp [intOf]; omega
        · obtain rfl : j = l.length := by omega
          have q1 : decide ((l.length : Int) < (l.length : Int)) = false := decide_eq_false (by omega)
          have H1 := Lib.hid (HB.out.trans (G2.out.mono HB.out.size))
          have HE : Hid (X0 ++ ⟨#[41]⟩ = (⟨(40 :: (Dt.txts l ++ [41])).toArray⟩ : ByteArray)) := by
            show _ = _
            rw [HX0.out, str_app1, List.take_length]; simp
          go_wp2_with fail
          go_ret
          exact ⟨by rw [← HE.out]; rfl, H1.out⟩
    · have q0 : (k != 4) = true := by rw [bne_iff_ne]; exact hk
      have htx : (Dt.mk k t ms l p).txt = t.data.toList := by simp [Dt.txt, hk]
      have hte : (⟨(Dt.mk k t ms l p).txt.toArray⟩ : ByteArray) = t := by rw [htx]
      rw [hte]
      clear htx hte ht5 hk
      go_enter Tryd.func21, Tryd.ntmps21
      go_wp2_with fail
      go_ret
      exact ⟨rfl, HB.out⟩

theorem refis_any (k : Int) (t s : ByteArray) (mv lv : Value) (p : Int) (b1 b2 : Bool) (h1 : (k == 3) = b1) (h2 : (t.toList == s.toList) = b2) (hm : mv.oneCell' = true) (hl : lv.oneCell' = true) (w : World) :
    Calls Tryd.prog 27 #[.agg #[.int .i64 k, .string t, mv, lv, .int .i64 p], .string s] w (RetBool (b1 && b2) w) := by
  cases b1
  · go_enter Tryd.func27, Tryd.ntmps27
    go_wp2
    go_ret
    exact ⟨rfl, (Below.refl _ _).alloc (Nat.le_refl _) _⟩
  · go_enter Tryd.func27, Tryd.ntmps27
    go_wp2
    go_ret
    exact ⟨rfl, (Below.refl _ _).alloc (Nat.le_refl _) _⟩
end Go.Proofs.YtkjcbaikebdmmaaDoor
