/- The writer's form. -/
import Derived.Test.YtcalbcllmmoldaaX0
import Derived.Test.YtcalbcllmmoldaaSH
namespace Go.Proofs.Ytcalbcllmmoldaa
open Go.RowKit Go.BigM
set_option linter.unusedVariables false
set_option linter.unusedSimpArgs false
/-- The writer puts a term behind what is there. -/
def TC (e : Et) : Prop := ∀ (B b : Nat) (l0 : List UInt8) (S : Nat → Prop) (cs : Array Value) (w : World), Et.At S w e cs → Wr B b l0 w → l0.length + e.wr.length ≤ 1000000000 → B ≤ w.heap.size →
  Calls Try.prog 42 #[.pointer (some ⟨b, 0, none⟩), .agg cs] w (RetPut B b (l0 ++ e.wr) w)
def FmInv (B b : Nat) (l0 : List UInt8) (hb : Bool) (l : List Et) (w : World) (iv : Value) (wr : World) : Prop :=
  ∃ j : Nat, j ≤ l.length ∧ iv = .int .i64 (j : Int) ∧ Wr B b (l0 ++ Et.wrs hb (l.take j)) wr ∧ Fr B b w wr
def fmt (head : ByteArray) (l : List Et) : List UInt8 := 40 :: head.data.toList ++ Et.wrs (!head.toList.isEmpty) l ++ [41]
set_option maxHeartbeats 8000000 in
set_option maxRecDepth 100000 in
theorem form_any (l : List Et) (ih : ∀ e ∈ l, TC e) (B b : Nat) (l0 : List UInt8) (head : ByteArray) (S : Nat → Prop) (av0 : Value) (w : World) (hat : AAt S w av0 l) (hW : Wr B b l0 w) (hlen : l0.length + (fmt head l).length ≤ 1000000000) (hBw : B ≤ w.heap.size) (hl : l.length ≤ 100000) :
    Calls Try.prog 57 #[.pointer (some ⟨b, 0, none⟩), .string head, av0] w (RetPut B b (l0 ++ fmt head l) w) := by
  obtain ⟨ao, cap, rfl⟩ := hat.form
  have HAT := Lib.hid hat
  have HL := Lib.hid hlen
  have IH := Lib.hid ih
  obtain ⟨hb, hhb⟩ : ∃ hb, hb = !head.toList.isEmpty := ⟨_, rfl⟩
  have hlen2 : l0.length + (head.data.toList.length + (1 + ((Et.wrs hb l).length + 1))) ≤ 1000000000 := by
    have := hlen
    unfold fmt at this
    rw [← hhb] at this
    simp only [List.length_append, List.length_cons, List.length_nil] at this
    omega
  have hbw := hW.lt
  have hsq : head.size = head.data.toList.length := Lib.size_eq head
  have P0 := Lib.hid (put_any B b l0 [⟨#[40]⟩, head] _ _ _ (NAt.lits w [⟨#[40]⟩, head]) (hW.alloc _) (by simp [cat]; omega) (by simp) (by simp; omega))
  have F0 := Lib.hid ((Fr.refl B b w).alloc hBw (.cells (tcells [⟨#[40]⟩, head]) 9))
  have HW0 := Lib.hid hW
  have HFM : Hid (l0 ++ fmt head l = l0 ++ cat [⟨#[40]⟩, head] ++ Et.wrs hb l ++ [41]) := by
    show _ = _
    unfold fmt; rw [← hhb]; simp [cat]
  rw [HFM.out]
  obtain ⟨l1, hl1e⟩ : ∃ l1, l1 = l0 ++ cat [⟨#[40]⟩, head] := ⟨_, rfl⟩
  rw [← hl1e] at P0 ⊢
  have hl1 : l1.length + ((Et.wrs hb l).length + 1) ≤ 1000000000 := by rw [hl1e]; simp [cat]; omega
  have HL1 := Lib.hid hl1
  have hempty : head.toList.isEmpty = !hb := by rw [hhb]; simp
  clear hat hW hlen hlen2 ih hl1 HL hhb hsq hl1e HFM
  go_enter Try.func57, Try.ntmps57
  go_wp2_with fail
  refine P0.out.mono ?_
  rintro e w1 ⟨rfl, hW1, hF1⟩
  have HW1 := Lib.hid hW1
  have HF1 := Lib.hid (F0.out.trans hF1)
  clear hW1 hF1 P0 F0
  go_wp2_with fail
  go_loopw [14] (fun iv wr => FmInv B b l1 hb l w iv wr) (fun iv _ => l.length - (intOf iv).toNat)
  case atStart => exact ⟨0, Nat.zero_le _, rfl, by simpa [Et.wrs] using HW1.out, HF1.out⟩
  case round =>
    obtain ⟨j, hj, rfl, hWj, hFj⟩ := hrel
    have HWJ := Lib.hid hWj
    have HFJ := Lib.hid hFj
    have HATJ := Lib.hid (HAT.out.keeps (Keeps.of_fr HW0.out hFj))
    have hBr : B ≤ wr.heap.size := by have h1 := hFj.1.size; omega
    clear hWj hFj
    by_cases hlt : j < l.length
    · have q1 : decide ((j : Int) < (l.length : Int)) = true := decide_eq_true (by omega)
      obtain ⟨g, o, k, t, nv, av, rfl, hS, -, hatj, e0, e1, e2, e3, o1, o2⟩ := HATJ.out.get j hlt
      have z0 : (#[.int .i64 k, .string t, nv, av] : Array Value).all (·.oneCell') = true := by simp [Value.oneCell'] at o1 o2 ⊢; exact ⟨o1, o2⟩
      have HTC := Lib.hid (IH.out _ (List.getElem_mem hlt))
      have HTK := Lib.hid (wrs_take l hb j hlt)
      have HLE : Hid (l1.length + (Et.wrs hb (l.take j)).length + (if (hb || decide (0 < j)) = true then [32] else ([] : List UInt8)).length + l[j].wr.length ≤ 1000000000) := by
        show _ ≤ _
        have h1 := wrs_take_le l hb (j + 1)
        have h2 := HL1.out
        rw [HTK.out, List.length_append, List.length_append] at h1
        omega
      have HATJ2 := Lib.hid hatj
      have hb9 := HWJ.out.lt
      clear hatj hS
      go_upto_region 4 with (refine wpList_store_row rfl 28 _ _ rfl wr.heap.size #[.int .i64 k, .string t, nv, av] rfl rfl 28 Z4 (alloc_at _ _) info28 rfl z0 ?_)
      try simp only [Act.put]
      have E0 : (wr.alloc (.cells #[.int .i64 0, .string ⟨#[]⟩, .slice none 0 0, .slice none 0 0] 28)).setRow wr.heap.size #[.int .i64 k, .string t, nv, av] = wr.alloc (.cells #[.int .i64 k, .string t, nv, av] 28) := setRow_new _ _ _ _
      try rw [E0]
      clear E0
      have A4 := (Below.refl wr.heap.size wr).alloc (Nat.le_refl _) (.cells #[.int .i64 k, .string t, nv, av] 28)
      have HW4 := Lib.hid (HWJ.out.alloc (.cells #[.int .i64 k, .string t, nv, av] 28))
      have HF4 := Lib.hid (HFJ.out.alloc hBr (.cells #[.int .i64 k, .string t, nv, av] 28))
      have HP4 : Hid (EB (wr.alloc (.cells #[.int .i64 k, .string t, nv, av] 28)) wr.heap.size k t nv av) := alloc_at _ _
      have HAT4 := Lib.hid (Et.At.keeps (Keeps.of_below A4) _ _ HATJ2.out)
      have hB4 : B ≤ (wr.alloc (.cells #[.int .i64 k, .string t, nv, av] 28)).heap.size := by simp; omega
      have hgpb : wr.heap.size ≠ b := by omega
      clear A4
      generalize wr.alloc (.cells #[.int .i64 k, .string t, nv, av] 28) = W4 at HW4 HF4 HP4 HAT4 hB4 ⊢
      generalize wr.heap.size = gp at HP4 hgpb ⊢
      clear e0 e1 e2 e3 hb9 HATJ HATJ2 hBr
      by_cases hj0 : 0 < j
      · have q2 : decide ((0 : Int) < (j : Int)) = true := decide_eq_true (by omega)
        have hcond : (hb || decide (0 < j)) = true := by simp [hj0]
        rw [hcond] at HLE
        simp only [if_true, List.length_cons, List.length_nil] at HLE
        have P5 := Lib.hid (put_any B b (l1 ++ Et.wrs hb (l.take j)) [⟨#[32]⟩] _ _ _ (NAt.lits W4 [⟨#[32]⟩]) (HW4.out.alloc _) (by have h1 := HLE.out; simp [cat]; omega) (by simp) (by simp; omega))
        have F5 := Lib.hid (HF4.out.alloc hB4 (.cells (tcells [⟨#[32]⟩]) 9))
        have A5 := Lib.hid ((Below.refl W4.heap.size W4).alloc (Nat.le_refl _) (.cells (tcells [⟨#[32]⟩]) 9))
        go_wp2_with fail
        refine P5.out.mono ?_
        rintro e w5 ⟨rfl, hW5, hF5⟩
        have HB5 := Lib.hid (Nat.le_trans (Nat.le_trans hB4 A5.out.size) hF5.1.size)
        have HW5 := Lib.hid hW5
        have HF5 := Lib.hid (F5.out.trans hF5)
        have HP5 : Hid (EB w5 gp k t nv av) := hF5.keep (row_below A5.out HP4.out) (by decide) hgpb
        have HAT5 := Lib.hid (Et.At.keeps (Keeps.of_fr (HW4.out.alloc (.cells (tcells [⟨#[32]⟩]) 9)) hF5) _ _ (Et.At.keeps (Keeps.of_below A5.out) _ _ HAT4.out))
        have HTC5 := Lib.hid (HTC.out B b _ S _ w5 HAT5.out HW5.out (by have h1 := HLE.out; simp [cat]; omega) HB5.out)
        clear hW5 hF5 P5
        go_wp2_with (refine wpList_load_row rfl 28 _ rfl gp rfl 28 #[.int .i64 k, .string t, nv, av] (0, 0) _ HP5.out Try.underlying28 rfl info28 ?_)
        refine HTC5.out.mono ?_
        rintro e w6 ⟨rfl, hW6, hF6⟩
        have HNX : Hid (FmInv B b l1 hb l w (.int .i64 ((j : Int) + 1)) w6) := ⟨j + 1, by omega, by go_num, by have h1 := HTK.out; rw [h1, ← List.append_assoc]; simpa [cat, hcond] using hW6, HF5.out.trans hF6⟩
        clear hW6 hF6 HTC5
        go_wp2_with fail
        go_roundw
        case rel => exact HNX.out
        case measure => simp [intOf]; omega
      · have q2 : decide ((0 : Int) < (j : Int)) = false := decide_eq_false (by omega)
        cases hb with
        | true =>
          have hcond : (true || decide (0 < j)) = true := rfl
          rw [hcond] at HLE
          simp only [if_true, List.length_cons, List.length_nil] at HLE
          have P5 := Lib.hid (put_any B b (l1 ++ Et.wrs true (l.take j)) [⟨#[32]⟩] _ _ _ (NAt.lits W4 [⟨#[32]⟩]) (HW4.out.alloc _) (by have h1 := HLE.out; simp [cat]; omega) (by simp) (by simp; omega))
          have F5 := Lib.hid (HF4.out.alloc hB4 (.cells (tcells [⟨#[32]⟩]) 9))
          have A5 := Lib.hid ((Below.refl W4.heap.size W4).alloc (Nat.le_refl _) (.cells (tcells [⟨#[32]⟩]) 9))
          go_wp2_with fail
          refine P5.out.mono ?_
          rintro e w5 ⟨rfl, hW5, hF5⟩
          have HB5 := Lib.hid (Nat.le_trans (Nat.le_trans hB4 A5.out.size) hF5.1.size)
          have HW5 := Lib.hid hW5
          have HF5 := Lib.hid (F5.out.trans hF5)
          have HP5 : Hid (EB w5 gp k t nv av) := hF5.keep (row_below A5.out HP4.out) (by decide) hgpb
          have HAT5 := Lib.hid (Et.At.keeps (Keeps.of_fr (HW4.out.alloc (.cells (tcells [⟨#[32]⟩]) 9)) hF5) _ _ (Et.At.keeps (Keeps.of_below A5.out) _ _ HAT4.out))
          have HTC5 := Lib.hid (HTC.out B b _ S _ w5 HAT5.out HW5.out (by have h1 := HLE.out; simp [cat]; omega) HB5.out)
          clear hW5 hF5 P5
          go_wp2_with (refine wpList_load_row rfl 28 _ rfl gp rfl 28 #[.int .i64 k, .string t, nv, av] (0, 0) _ HP5.out Try.underlying28 rfl info28 ?_)
          refine HTC5.out.mono ?_
          rintro e w6 ⟨rfl, hW6, hF6⟩
          have HNX : Hid (FmInv B b l1 true l w (.int .i64 ((j : Int) + 1)) w6) := ⟨j + 1, by omega, by go_num, by have h1 := HTK.out; rw [h1, ← List.append_assoc]; simpa [cat, hcond] using hW6, HF5.out.trans hF6⟩
          clear hW6 hF6 HTC5
          go_wp2_with fail
          go_roundw
          case rel => exact HNX.out
          case measure => simp [intOf]; omega
        | false =>
          have hcond : (false || decide (0 < j)) = false := by simp [hj0]
          rw [hcond] at HLE
          simp only [if_false, List.length_nil, Bool.false_eq_true] at HLE
          have HTC5 := Lib.hid (HTC.out B b _ S _ W4 HAT4.out HW4.out (by have h1 := HLE.out; simp only [List.length_append]; omega) hB4)
          have HF5 := HF4
          have HP5 := HP4
          go_wp2_with (refine wpList_load_row rfl 28 _ rfl gp rfl 28 #[.int .i64 k, .string t, nv, av] (0, 0) _ HP5.out Try.underlying28 rfl info28 ?_)
          refine HTC5.out.mono ?_
          rintro e w6 ⟨rfl, hW6, hF6⟩
          have HNX : Hid (FmInv B b l1 false l w (.int .i64 ((j : Int) + 1)) w6) := ⟨j + 1, by omega, by go_num, by have h1 := HTK.out; rw [h1, ← List.append_assoc]; simpa [hcond] using hW6, HF5.out.trans hF6⟩
          clear hW6 hF6 HTC5
          go_wp2_with fail
          go_roundw
          case rel => exact HNX.out
          case measure => simp [intOf]; omega
    · have q1 : decide ((j : Int) < (l.length : Int)) = false := decide_eq_false (by omega)
      obtain rfl : j = l.length := by omega
      have HWE : Hid (Wr B b (l1 ++ Et.wrs hb l) wr) := by show _; have := HWJ.out; rw [List.take_length] at this; exact this
      have P8 := Lib.hid (put_any B b (l1 ++ Et.wrs hb l) [⟨#[41]⟩] _ _ _ (NAt.lits wr [⟨#[41]⟩]) (HWE.out.alloc _) (by have h1 := HL1.out; simp [cat]; omega) (by simp) (by simp; omega))
      have F8 := Lib.hid (HFJ.out.alloc hBr (.cells (tcells [⟨#[41]⟩]) 9))
      go_wp2_with fail
      refine P8.out.mono ?_
      rintro e w9 ⟨rfl, hW9, hF9⟩
      have HW9 : Hid (Wr B b (l1 ++ Et.wrs hb l ++ [41]) w9) := by show Wr B b (l1 ++ Et.wrs hb l ++ [41]) w9; simpa [cat] using hW9
      have HF9 := Lib.hid (F8.out.trans hF9)
      clear hW9 hF9
      go_wp2_with fail
      go_end0
      exact ⟨rfl, HW9.out, HF9.out⟩
end Go.Proofs.Ytcalbcllmmoldaa
