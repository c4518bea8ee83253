/- The contract of the writer's datum, at any datum. -/
import Derived.Test.YtlkpddokmibkiaaDt
import Derived.Test.YtlkpddokmibkiaaD1
import Derived.PlainAid
import Derived.Deep.Cut
import Derived.Laws.Rows
namespace Go.Proofs.Ytlkpddokmibkiaa
open Go.RowKit
set_option linter.unusedVariables false
set_option linter.unusedSimpArgs false

theorem size_list (t : ByteArray) : t.data.toList.length = t.size := by rw [Array.length_toList]; rfl
theorem txtr_append : ∀ (l m : List Dt), Dt.txtr (l ++ m) = Dt.txtr l ++ Dt.txtr m
  | [], m => by simp [Dt.txtr]
  | d :: l, m => by simp [Dt.txtr, txtr_append l m, List.append_assoc]
theorem txts_snoc (l : List Dt) (d : Dt) : Dt.txts (l ++ [d]) = Dt.txts l ++ (if l = [] then [] else [32]) ++ d.txt := by
  cases l with
  | nil => simp [Dt.txts, Dt.txtr]
  | cons a l => simp [Dt.txts, txtr_append, Dt.txtr, List.append_assoc]
theorem take_snoc_dt (l : List Dt) (j : Nat) (h : j < l.length) : l.take (j + 1) = l.take j ++ [l[j]] := by
  rw [List.take_succ_eq_append_getElem h]
theorem txts_take (l : List Dt) (j : Nat) (h : j < l.length) : Dt.txts (l.take (j + 1)) = Dt.txts (l.take j) ++ (if j = 0 then [] else [32]) ++ l[j].txt := by
  rw [take_snoc_dt l j h, txts_snoc]
  by_cases h0 : j = 0
  · subst h0; simp
  · have : l.take j ≠ [] := by
      intro e
      have := congrArg List.length e
      rw [List.length_take, List.length_nil] at this; omega
    simp [this, h0]
theorem txts_le (l : List Dt) (j : Nat) : (Dt.txts (l.take j)).length ≤ (Dt.txts l).length := by
  cases l with
  | nil => simp
  | cons d l =>
    cases j with
    | zero => simp [Dt.txts]
    | succ j =>
      have e := txtr_append (l.take j) (l.drop j)
      rw [List.take_append_drop] at e
      simp only [List.take_succ_cons, Dt.txts, List.length_append, e]; omega
theorem txts_le2 (l : List Dt) (j : Nat) (h : j < l.length) : (Dt.txts (l.take j)).length + (if j = 0 then 0 else 1) + l[j].txt.length ≤ (Dt.txts l).length := by
  have h1 := txts_le l (j + 1)
  rw [txts_take l j h] at h1
  split at h1
  · rename_i h0; simp [h0] at h1 ⊢; omega
  · rename_i h0; simp [h0] at h1 ⊢; omega
theorem LAt.form {S : Nat → Prop} {w : World} {lv : Value} {l : List Dt} (h : LAt S w lv l) : ∃ ao cap, lv = .slice ao l.length cap := by
  rcases h with ⟨rfl, rfl⟩ | ⟨g, o, cap, arr, fz, rfl, _⟩
  · exact ⟨none, 0, rfl⟩
  · exact ⟨_, _, rfl⟩
/-- The cells of the part at a place. -/
theorem LAt.get {S : Nat → Prop} {w : World} {ao : Option Addr} {n cap : Nat} {l : List Dt} (h : LAt S w (.slice ao n cap) l) (j : Nat) (hj : j < l.length) :
    ∃ g o k t mv lv p, ao = some ⟨g, o, none⟩ ∧ S g ∧ (∃ c fz, w.heap[g]? = some (.cells c 28 fz)) ∧ Dt.At S w l[j] #[.int .i64 k, .string t, mv, lv, .int .i64 p] ∧
      w.cell? ⟨g, o + j * 5, none⟩ = some (.int .i64 k) ∧ w.cell? ⟨g, o + j * 5 + 1, none⟩ = some (.string t) ∧ w.cell? ⟨g, o + j * 5 + 2, none⟩ = some mv ∧
      w.cell? ⟨g, o + j * 5 + 3, none⟩ = some lv ∧ w.cell? ⟨g, o + j * 5 + 4, none⟩ = some (.int .i64 p) ∧ mv.oneCell' = true ∧ lv.oneCell' = true := by
  rcases h with ⟨_, rfl⟩ | ⟨g, o, cap', arr, fz, e, hS, hg, hd⟩
  · simp at hj
  · injection e with e1 e2 e3
    subst e1
    obtain ⟨cs, hc, hat⟩ := Dts.At.get l arr o hd j hj
    generalize hd' : l[j] = d at hat
    obtain ⟨k, t, ms, lst, p⟩ := d
    have hat' := hat
    rw [At_mk] at hat'
    obtain ⟨mv, lv, rfl, hm, hl⟩ := hat'
    refine ⟨g, o, k, t, mv, lv, p, rfl, hS, ⟨arr, fz, hg⟩, hat, ?_, ?_, ?_, ?_, ?_, hm.one, hl.one⟩
    · rw [Lib.cell_of_heap hg]; rw [Nat.mul_comm]; exact hc 0 (by decide)
    · rw [Lib.cell_of_heap hg, Nat.mul_comm]; exact hc 1 (by decide)
    · rw [Lib.cell_of_heap hg, Nat.mul_comm]; exact hc 2 (by decide)
    · rw [Lib.cell_of_heap hg, Nat.mul_comm]; exact hc 3 (by decide)
    · rw [Lib.cell_of_heap hg, Nat.mul_comm]; exact hc 4 (by decide)

theorem length_sizes : ∀ (l : List Dt), l.length ≤ Dt.sizes l
  | [] => by simp
  | d :: l => by
    have h1 := length_sizes l
    have h2 : 1 ≤ d.size := by cases d; simp only [Dt.size]; omega
    simp only [List.length_cons, Dt.sizes]; omega
/-- The writer's loop: what is written behind j parts. -/
def DInv (B b : Nat) (l : List UInt8) (lst : List Dt) (w : World) (iv : Value) (wr : World) : Prop :=
  ∃ j : Nat, j ≤ lst.length ∧ iv = .int .i64 j ∧ Wr B b (l ++ 40 :: Dt.txts (lst.take j)) wr ∧ Fr B b w wr

set_option maxHeartbeats 4000000 in
theorem datum_any (n : Nat) : n ≤ 1000000000 → ∀ (d : Dt), d.size ≤ n → ∀ (B b : Nat) (l : List UInt8) (S : Nat → Prop) (cs : Array Value) (w : World), Dt.At S w d cs → Wr B b l w → l.length + d.txt.length ≤ 140737488355328 → B ≤ w.heap.size →
    Calls Try.prog 31 #[.pointer (some ⟨b, 0, none⟩), .agg cs] w (RetWr B b (l ++ d.txt) w) := by
  induction n with
  | zero => intro _ d hd; cases d; simp [Dt.size] at hd
  | succ n ih0 =>
    intro hn d hd B b l S cs w hat hW hlen hBw
    have ih := ih0 (by omega)
    clear ih0
    obtain ⟨k, t, ms, lst, p⟩ := d
    rw [At_mk] at hat
    obtain ⟨mv, lv, rfl, hm, hl⟩ := hat
    by_cases hk : k = 4
    · subst hk
      have IH : Hid (∀ (d : Dt), d.size ≤ n → ∀ (B b : Nat) (l : List UInt8) (S : Nat → Prop) (cs : Array Value) (w : World), Dt.At S w d cs → Wr B b l w → l.length + d.txt.length ≤ 140737488355328 → B ≤ w.heap.size →
        Calls Try.prog 31 #[.pointer (some ⟨b, 0, none⟩), .agg cs] w (RetWr B b (l ++ d.txt) w)) := ih
      have htx : Dt.txt (.mk 4 t ms lst p) = 40 :: (Dt.txts lst ++ [41]) := by simp [Dt.txt]
      rw [htx] at hlen ⊢
      simp only [List.length_cons, List.length_append, List.length_nil] at hlen
      have hsz : Dt.sizes lst ≤ n := by simp only [Dt.size] at hd; omega
      have hln := length_sizes lst
      have hm1 := hm.one
      have hl1 := hl.one
      have HW := Lib.hid (hW.alloc (.cells #[.int .i64 4, .string t, mv, lv, .int .i64 p] 28))
      have HF := Lib.hid ((Fr.refl B b w).alloc hBw (.cells #[.int .i64 4, .string t, mv, lv, .int .i64 p] 28))
      have hg := Lib.hid (show ((w.alloc (.cells #[.int .i64 4, .string t, mv, lv, .int .i64 p] 28))).heap[w.heap.size]? = some (.cells #[.int .i64 4, .string t, mv, lv, .int .i64 p] 28 (0, 0)) from heap_alloc_new w _)
      have hbne : w.heap.size ≠ b := by have := hW.lt; omega
      have hsz1 : B ≤ (w.alloc (.cells #[.int .i64 4, .string t, mv, lv, .int .i64 p] 28)).heap.size := by simp; omega
      have HL := Lib.hid (hl.keeps (Keeps.of_below ((Below.refl w.heap.size w).alloc (Nat.le_refl _) (.cells #[.int .i64 4, .string t, mv, lv, .int .i64 p] 28))))
      clear ih hW hl hm htx hd
      generalize hW0 : w.alloc (.cells #[.int .i64 4, .string t, mv, lv, .int .i64 p] 28) = W0 at HW HF hg hsz1 HL
      have HW0 := Lib.hid hW0
      clear hW0
      go_enter Try.func31, Try.ntmps31
      go_wp2_with fail
      rw [HW0.out]
      refine (wbyte B b l 40 _ HW.out (by omega) hsz1).mono ?_
      rintro e w1 ⟨rfl, hW1, hF1⟩
      have H1 := Lib.hid hW1
      have H2 := Lib.hid (HF.out.trans hF1)
      have c3 : w1.cell? ⟨w.heap.size, 3, none⟩ = some lv := by rw [Lib.cell_of_heap (hF1.keep hg.out (by decide) hbne)]; rfl
      have H3 := Lib.hid (HL.out.keeps (Keeps.of_fr HW.out hF1))
      clear hW1 hF1 HW HF hg HL HW0
      obtain ⟨ao, cap, rfl⟩ := H3.out.form
      go_wp2_with fail
      go_loopw [22] (fun iv wr => DInv B b l lst w1 iv wr) (fun iv _ => lst.length - (intOf iv).toNat)
      case atStart => exact ⟨0, Nat.zero_le _, rfl, by simpa [Dt.txts] using H1.out, Fr.refl _ _ _⟩
      case round =>
        obtain ⟨j, hj, rfl, hWj, hFj⟩ := hrel
        have G1 := Lib.hid hWj
        have G2 := Lib.hid hFj
        have G3 := Lib.hid (H3.out.keeps (Keeps.of_fr H1.out hFj))
        have hBr : B ≤ wr.heap.size := by have h1 := hFj.1.size; have h2 := H2.out.1.size; omega
        clear hWj hFj
        by_cases hlt : j < lst.length
        · obtain ⟨g, o, k', t', mv', lv', p', rfl, hS, -, hat, e0, e1, e2, e3, e4, o1, o2⟩ := G3.out.get j hlt
          have G4 := Lib.hid hat
          clear hat
          have z1 : (#[.int .i64 k', .string t', mv', lv', .int .i64 p'] : Array Value).all (·.oneCell') = true := by simp [Value.oneCell'] at o1 o2 ⊢; exact ⟨o1, o2⟩
          go_upto_region 7 with (refine wpList_store_row rfl 28 _ _ rfl wr.heap.size #[.int .i64 k', .string t', mv', lv', .int .i64 p'] rfl rfl 28 Z5 (alloc_at _ _) info28 rfl z1 ?_)
          simp only [Act.put]
          have E0 : (wr.alloc (.cells #[.int .i64 0, .string ⟨#[]⟩, .slice none 0 0, .slice none 0 0, .int .i64 0] 28)).setRow wr.heap.size #[.int .i64 k', .string t', mv', lv', .int .i64 p'] = wr.alloc (.cells #[.int .i64 k', .string t', mv', lv', .int .i64 p'] 28) := setRow_new _ _ _ _
          rw [E0]
          clear E0 e0 e1 e2 e3 e4
          have F1 := Lib.hid (G1.out.alloc (.cells #[.int .i64 k', .string t', mv', lv', .int .i64 p'] 28))
          have F2 := Lib.hid (G2.out.alloc hBr (.cells #[.int .i64 k', .string t', mv', lv', .int .i64 p'] 28))
          have F3 := Lib.hid (Dt.At.keeps (Keeps.of_below ((Below.refl wr.heap.size wr).alloc (Nat.le_refl _) (.cells #[.int .i64 k', .string t', mv', lv', .int .i64 p'] 28))) _ _ G4.out)
          have F4 := Lib.hid (alloc_at wr (.cells #[.int .i64 k', .string t', mv', lv', .int .i64 p'] 28))
          have hBr2 : B ≤ (wr.alloc (.cells #[.int .i64 k', .string t', mv', lv', .int .i64 p'] 28)).heap.size := by simp; omega
          have hne : wr.heap.size ≠ b := by have := G1.out.lt; omega
          generalize wr.alloc (.cells #[.int .i64 k', .string t', mv', lv', .int .i64 p'] 28) = W2 at F1 F2 F3 F4 hBr2
          clear G4
          have hle := txts_le2 lst j hlt
          have hsj := size_get lst j hlt
          have htk := Lib.hid (txts_take lst j hlt)
          by_cases hj0 : j = 0
          · subst hj0
            simp only [if_true] at hle htk
            have hd0 : decide ((0 : Int) < ((0 : Nat) : Int)) = false := rfl
            go_wp2_with (first | (refine wpList_load_row rfl 28 _ rfl wr.heap.size rfl 28 #[.int .i64 k', .string t', mv', lv', .int .i64 p'] (0, 0) _ F4.out Try.underlying28 rfl info28 ?_))
            refine (IH.out lst[0] (by omega) B b _ S _ W2 F3.out F1.out (by simp [Dt.txts] at hle ⊢; omega) hBr2).mono ?_
            rintro e w4 ⟨rfl, hW4, hF4⟩
            have HN := Lib.hid (show DInv B b l lst w1 (.int .i64 1) w4 from ⟨1, by omega, rfl, by rw [htk.out]; simpa [Dt.txts] using hW4, F2.out.trans hF4⟩)
            clear hW4 hF4
            go_wp2_with fail
            go_roundw
            case rel => exact HN.out
            case measure => simp [intOf]; omega
          · simp only [hj0, if_false] at hle htk
            have hd0 : decide ((0 : Int) < (j : Int)) = true := decide_eq_true (by omega)
            go_wp2_with fail
            refine (wbyte B b _ 32 W2 F1.out (by simp only [List.length_append, List.length_cons]; omega) hBr2).mono ?_
            rintro e w3 ⟨rfl, hW3, hF3⟩
            have Q1 := Lib.hid hW3
            have Q2 := Lib.hid (F2.out.trans hF3)
            have Q3 := Lib.hid (Dt.At.keeps (Keeps.of_fr F1.out hF3) _ _ F3.out)
            have Q4 := Lib.hid (hF3.keep F4.out (by decide) hne)
            have hBr3 : B ≤ w3.heap.size := by have := hF3.1.size; omega
            clear hW3 hF3
            go_wp2_with (first | (refine wpList_load_row rfl 28 _ rfl wr.heap.size rfl 28 #[.int .i64 k', .string t', mv', lv', .int .i64 p'] (0, 0) _ Q4.out Try.underlying28 rfl info28 ?_))
            refine (IH.out lst[j] (by omega) B b _ S _ w3 Q3.out Q1.out (by simp only [List.length_append, List.length_cons, List.length_nil]; omega) hBr3).mono ?_
            rintro e w4 ⟨rfl, hW4, hF4⟩
            have HN := Lib.hid (show DInv B b l lst w1 (.int .i64 ((j : Int) + 1)) w4 from ⟨j + 1, by omega, by go_num, by rw [htk.out]; simpa [List.append_assoc] using hW4, Q2.out.trans hF4⟩)
            clear hW4 hF4
            go_wp2_with fail
            go_roundw
            case rel => exact HN.out
            case measure => simp [intOf]; omega
        · obtain rfl : j = lst.length := by omega
          have hend : l ++ 40 :: Dt.txts (lst.take lst.length) = l ++ 40 :: Dt.txts lst := by rw [List.take_length]
          have G1' := Lib.hid (hend ▸ G1.out)
          clear hend G1 hlt
          go_wp2_with fail
          refine (wbyte B b _ 41 wr G1'.out (by simp only [List.length_append, List.length_cons]; omega) hBr).mono ?_
          rintro e w3 ⟨rfl, hW3, hF3⟩
          have Q1 := Lib.hid (show Wr B b (l ++ 40 :: (Dt.txts lst ++ [41])) w3 by simpa [List.append_assoc] using hW3)
          have Q2 := Lib.hid ((H2.out.trans G2.out).trans hF3)
          clear hW3 hF3
          go_wp2
          go_end0
          exact ⟨rfl, Q1.out, Q2.out⟩
    · have htx : Dt.txt (.mk k t ms lst p) = t.data.toList := by simp [Dt.txt, hk]
      rw [htx] at hlen ⊢
      exact datum_leaf B b l k t mv lv p (by rw [bne_iff_ne]; exact hk) hm.one hl.one w hW (by rw [← size_list]; exact hlen) hBw
end Go.Proofs.Ytlkpddokmibkiaa
