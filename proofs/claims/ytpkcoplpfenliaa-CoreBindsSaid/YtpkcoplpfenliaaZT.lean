/- How a term is written: the mathematics. -/
import Derived.Test.YtpkcoplpfenliaaT0
import Derived.Test.YtpkcoplpfenliaaW1
import Derived.Test.YtpkcoplpfenliaaSH
import Derived.Test.YtpkcoplpfenliaaMN1
import Derived.Test.YtpkcoplpfenliaaSHL
import Derived.Test.YtpkcoplpfenliaaM0
import Derived.Test.YtpkcoplpfenliaaK1
namespace Go.Proofs.Ytpkcoplpfenliaa
open Go.RowKit
set_option linter.unusedVariables false
set_option linter.unusedSimpArgs false
/-- Texts, parted by blanks. -/
def jn : List ByteArray → List UInt8
  | [] => []
  | [s] => s.data.toList
  | s :: l => s.data.toList ++ 32 :: jn l
mutual
/-- The text of a term. -/
def Et.wr : Et → List UInt8
  | .mk k t ns a =>
    if k = 3 then [40, 41] else if k = 4 then 39 :: t.data.toList
    else if k = 6 then 40 :: ([108, 97, 109, 98, 100, 97, 32, 40] ++ jn ns ++ [41]) ++ Et.wrs true a ++ [41]
    else if k = 7 then 40 :: Et.wrs false a ++ [41]
    else if k = 8 then 40 :: [105, 102] ++ Et.wrs true a ++ [41]
    else if k = 9 then [40, 108, 101, 116, 32, 40] ++ Et.wrb false ns a ++ [41] ++ Et.wrl ns a ++ [41]
    else if k = 10 then 40 :: t.data.toList ++ Et.wrs true a ++ [41]
    else t.data.toList
/-- Terms, each behind a blank; ahead of the first one only if there is something. -/
def Et.wrs (b : Bool) : List Et → List UInt8
  | [] => []
  | e :: l => (if b then [32] else []) ++ e.wr ++ Et.wrs true l
/-- Names with their values, in brackets. -/
def Et.wrb (b : Bool) : List ByteArray → List Et → List UInt8
  | s :: ns, e :: l => (if b then [32] else []) ++ (40 :: s.data.toList ++ 32 :: e.wr ++ [41]) ++ Et.wrb true ns l
  | _, _ => []
/-- What is left behind the values. -/
def Et.wrl : List ByteArray → List Et → List UInt8
  | [], e :: l => 32 :: e.wr ++ Et.wrl [] l
  | _ :: ns, _ :: l => Et.wrl ns l
  | _, [] => []
end
theorem wr_mk (k : Int) (t : ByteArray) (ns : List ByteArray) (a : List Et) : (Et.mk k t ns a).wr =
    if k = 3 then [40, 41] else if k = 4 then 39 :: t.data.toList
    else if k = 6 then 40 :: ([108, 97, 109, 98, 100, 97, 32, 40] ++ jn ns ++ [41]) ++ Et.wrs true a ++ [41]
    else if k = 7 then 40 :: Et.wrs false a ++ [41]
    else if k = 8 then 40 :: [105, 102] ++ Et.wrs true a ++ [41]
    else if k = 9 then [40, 108, 101, 116, 32, 40] ++ Et.wrb false ns a ++ [41] ++ Et.wrl ns a ++ [41]
    else if k = 10 then 40 :: t.data.toList ++ Et.wrs true a ++ [41]
    else t.data.toList := by conv => lhs; unfold Et.wr
theorem wrs_snoc : ∀ (l : List Et) (b : Bool) (e : Et), Et.wrs b (l ++ [e]) = Et.wrs b l ++ ((if b || decide (0 < l.length) then [32] else []) ++ e.wr)
  | [], b, e => by simp [Et.wrs]
  | d :: l, b, e => by
    simp only [List.cons_append, Et.wrs, wrs_snoc l true e]
    simp
theorem wrs_take (l : List Et) (b : Bool) (j : Nat) (h : j < l.length) : Et.wrs b (l.take (j + 1)) = Et.wrs b (l.take j) ++ ((if b || decide (0 < j) then [32] else []) ++ l[j].wr) := by
  rw [take_snoc_et l j h, wrs_snoc, List.length_take, Nat.min_eq_left (by omega)]
theorem wrs_take_le : ∀ (l : List Et) (b : Bool) (j : Nat), (Et.wrs b (l.take j)).length ≤ (Et.wrs b l).length
  | [], b, j => by simp
  | d :: l, b, 0 => by simp [Et.wrs]
  | d :: l, b, j + 1 => by
    have := wrs_take_le l true j
    simp only [List.take_succ_cons, Et.wrs, List.length_append]; omega
theorem wrb_take : ∀ (ns : List ByteArray) (l : List Et) (b : Bool) (j : Nat) (h : j < l.length) (hn : j < ns.length),
    Et.wrb b (ns.take (j + 1)) (l.take (j + 1)) = Et.wrb b (ns.take j) (l.take j) ++ ((if b || decide (0 < j) then [32] else []) ++ (40 :: ns[j].data.toList ++ 32 :: l[j].wr ++ [41]))
  | [], l, b, j, h, hn => by simp at hn
  | s :: ns, [], b, j, h, hn => by simp at h
  | s :: ns, d :: l, b, 0, h, hn => by simp [Et.wrb]
  | s :: ns, d :: l, b, j + 1, h, hn => by
    have := wrb_take ns l true j (by simpa using h) (by simpa using hn)
    simp only [List.take_succ_cons, Et.wrb] at this ⊢
    rw [this]
    simp
theorem wrb_take_le : ∀ (ns : List ByteArray) (l : List Et) (b : Bool) (j : Nat), (Et.wrb b (ns.take j) (l.take j)).length ≤ (Et.wrb b ns l).length
  | [], l, b, j => by simp [Et.wrb]
  | s :: ns, [], b, j => by simp [Et.wrb]
  | s :: ns, d :: l, b, 0 => by simp [Et.wrb]
  | s :: ns, d :: l, b, j + 1 => by
    have := wrb_take_le ns l true j
    simp only [List.take_succ_cons, Et.wrb, List.length_append]; omega
theorem wrb_short : ∀ (ns : List ByteArray) (l : List Et) (b : Bool), Et.wrb b ns (l.take ns.length) = Et.wrb b ns l
  | [], l, b => by simp [Et.wrb]
  | s :: ns, [], b => by simp
  | s :: ns, d :: l, b => by simp only [List.length_cons, List.take_succ_cons, Et.wrb, wrb_short ns l true]
theorem wrl_last : ∀ (ns : List ByteArray) (l : List Et) (h : ns.length < l.length), l.length = ns.length + 1 → Et.wrl ns l = 32 :: l[ns.length].wr
  | [], [], h, _ => by simp at h
  | [], [e], h, _ => by simp [Et.wrl]
  | [], e :: f :: l, h, h2 => by simp at h2
  | s :: ns, [], h, _ => by simp at h
  | s :: ns, e :: l, h, h2 => by
    have := wrl_last ns l (by simpa using h) (by simpa using h2)
    simp only [Et.wrl, this, List.length_cons, List.getElem_cons_succ]
end Go.Proofs.Ytpkcoplpfenliaa
/- The writer's form. -/
namespace Go.Proofs.Ytpkcoplpfenliaa
open Go.RowKit Go.BigM
set_option linter.unusedVariables false
set_option linter.unusedSimpArgs false
/-- The writer puts a term behind what is there. -/
def TC (e : Et) : Prop := ∀ (B b : Nat) (l0 : List UInt8) (S : Nat → Prop) (cs : Array Value) (w : World), Et.At S w e cs → Wr B b l0 w → l0.length + e.wr.length ≤ 1000000000 → B ≤ w.heap.size →
  Calls Try.prog 42 #[.pointer (some ⟨b, 0, none⟩), .agg cs] w (RetPut B b (l0 ++ e.wr) w)
def FmInv (B b : Nat) (l0 : List UInt8) (hb : Bool) (l : List Et) (w : World) (iv : Value) (wr : World) : Prop :=
  ∃ j : Nat, j ≤ l.length ∧ iv = .int .i64 (j : Int) ∧ Wr B b (l0 ++ Et.wrs hb (l.take j)) wr ∧ Fr B b w wr
def fmt (head : ByteArray) (l : List Et) : List UInt8 := 40 :: head.data.toList ++ Et.wrs (!head.toList.isEmpty) l ++ [41]
set_option maxHeartbeats 8000000 in
set_option maxRecDepth 100000 in
theorem form_any (l : List Et) (ih : ∀ e ∈ l, TC e) (B b : Nat) (l0 : List UInt8) (head : ByteArray) (S : Nat → Prop) (av0 : Value) (w : World) (hat : AAt S w av0 l) (hW : Wr B b l0 w) (hlen : l0.length + (fmt head l).length ≤ 1000000000) (hBw : B ≤ w.heap.size) (hl : l.length ≤ 100000) :
    Calls Try.prog 57 #[.pointer (some ⟨b, 0, none⟩), .string head, av0] w (RetPut B b (l0 ++ fmt head l) w) := by
  obtain ⟨ao, cap, rfl⟩ := hat.form
  have HAT := Lib.hid hat
  have HL := Lib.hid hlen
  have IH := Lib.hid ih
  obtain ⟨hb, hhb⟩ : ∃ hb, hb = !head.toList.isEmpty := ⟨_, rfl⟩
  have hlen2 : l0.length + (head.data.toList.length + (1 + ((Et.wrs hb l).length + 1))) ≤ 1000000000 := by
    have := hlen
    unfold fmt at this
    rw [← hhb] at this
    simp only [List.length_append, List.length_cons, List.length_nil] at this
    omega
  have hbw := hW.lt
  have hsq : head.size = head.data.toList.length := Lib.size_eq head
  have P0 := Lib.hid (put_any B b l0 [⟨#[40]⟩, head] _ _ _ (NAt.lits w [⟨#[40]⟩, head]) (hW.alloc _) (by simp [cat]; omega) (by simp) (by simp; omega))
  have F0 := Lib.hid ((Fr.refl B b w).alloc hBw (.cells (tcells [⟨#[40]⟩, head]) 9))
  have HW0 := Lib.hid hW
  have HFM : Hid (l0 ++ fmt head l = l0 ++ cat [⟨#[40]⟩, head] ++ Et.wrs hb l ++ [41]) := by
    show _ = _
    unfold fmt; rw [← hhb]; simp [cat]
  rw [HFM.out]
  obtain ⟨l1, hl1e⟩ : ∃ l1, l1 = l0 ++ cat [⟨#[40]⟩, head] := ⟨_, rfl⟩
  rw [← hl1e] at P0 ⊢
  have hl1 : l1.length + ((Et.wrs hb l).length + 1) ≤ 1000000000 := by rw [hl1e]; simp [cat]; omega
  have HL1 := Lib.hid hl1
  have hempty : head.toList.isEmpty = !hb := by rw [hhb]; simp
  clear hat hW hlen hlen2 ih hl1 HL hhb hsq hl1e HFM
  go_enter Try.func57, Try.ntmps57
  go_wp2_with fail
  refine P0.out.mono ?_
  rintro e w1 ⟨rfl, hW1, hF1⟩
  have HW1 := Lib.hid hW1
  have HF1 := Lib.hid (F0.out.trans hF1)
  clear hW1 hF1 P0 F0
  go_wp2_with fail
  go_loopw [14] (fun iv wr => FmInv B b l1 hb l w iv wr) (fun iv _ => l.length - (intOf iv).toNat)
  case atStart => exact ⟨0, Nat.zero_le _, rfl, by simpa [Et.wrs] using HW1.out, HF1.out⟩
  case round =>
    obtain ⟨j, hj, rfl, hWj, hFj⟩ := hrel
    have HWJ := Lib.hid hWj
    have HFJ := Lib.hid hFj
    have HATJ := Lib.hid (HAT.out.keeps (Keeps.of_fr HW0.out hFj))
    have hBr : B ≤ wr.heap.size := by have h1 := hFj.1.size; omega
    clear hWj hFj
    by_cases hlt : j < l.length
    · have q1 : decide ((j : Int) < (l.length : Int)) = true := decide_eq_true (by omega)
      obtain ⟨g, o, k, t, nv, av, rfl, hS, -, hatj, e0, e1, e2, e3, o1, o2⟩ := HATJ.out.get j hlt
      have z0 : (#[.int .i64 k, .string t, nv, av] : Array Value).all (·.oneCell') = true := by simp [Value.oneCell'] at o1 o2 ⊢; exact ⟨o1, o2⟩
      have HTC := Lib.hid (IH.out _ (List.getElem_mem hlt))
      have HTK := Lib.hid (wrs_take l hb j hlt)
      have HLE : Hid (l1.length + (Et.wrs hb (l.take j)).length + (if (hb || decide (0 < j)) = true then [32] else ([] : List UInt8)).length + l[j].wr.length ≤ 1000000000) := by
        show _ ≤ _
        have h1 := wrs_take_le l hb (j + 1)
        have h2 := HL1.out
        rw [HTK.out, List.length_append, List.length_append] at h1
        omega
      have HATJ2 := Lib.hid hatj
      have hb9 := HWJ.out.lt
      clear hatj hS
      go_upto_region 4 with (refine wpList_store_row rfl 28 _ _ rfl wr.heap.size #[.int .i64 k, .string t, nv, av] rfl rfl 28 Z4 (alloc_at _ _) info28 rfl z0 ?_)
      try simp only [Act.put]
      have E0 : (wr.alloc (.cells #[.int .i64 0, .string ⟨#[]⟩, .slice none 0 0, .slice none 0 0] 28)).setRow wr.heap.size #[.int .i64 k, .string t, nv, av] = wr.alloc (.cells #[.int .i64 k, .string t, nv, av] 28) := setRow_new _ _ _ _
      try rw [E0]
      clear E0
      have A4 := (Below.refl wr.heap.size wr).alloc (Nat.le_refl _) (.cells #[.int .i64 k, .string t, nv, av] 28)
      have HW4 := Lib.hid (HWJ.out.alloc (.cells #[.int .i64 k, .string t, nv, av] 28))
      have HF4 := Lib.hid (HFJ.out.alloc hBr (.cells #[.int .i64 k, .string t, nv, av] 28))
      have HP4 : Hid (EB (wr.alloc (.cells #[.int .i64 k, .string t, nv, av] 28)) wr.heap.size k t nv av) := alloc_at _ _
      have HAT4 := Lib.hid (Et.At.keeps (Keeps.of_below A4) _ _ HATJ2.out)
      have hB4 : B ≤ (wr.alloc (.cells #[.int .i64 k, .string t, nv, av] 28)).heap.size := by simp; omega
      have hgpb : wr.heap.size ≠ b := by omega
      clear A4
      generalize wr.alloc (.cells #[.int .i64 k, .string t, nv, av] 28) = W4 at HW4 HF4 HP4 HAT4 hB4 ⊢
      generalize wr.heap.size = gp at HP4 hgpb ⊢
      clear e0 e1 e2 e3 hb9 HATJ HATJ2 hBr
      by_cases hj0 : 0 < j
      · have q2 : decide ((0 : Int) < (j : Int)) = true := decide_eq_true (by omega)
        have hcond : (hb || decide (0 < j)) = true := by simp [hj0]
        rw [hcond] at HLE
        simp only [if_true, List.length_cons, List.length_nil] at HLE
        have P5 := Lib.hid (put_any B b (l1 ++ Et.wrs hb (l.take j)) [⟨#[32]⟩] _ _ _ (NAt.lits W4 [⟨#[32]⟩]) (HW4.out.alloc _) (by have h1 := HLE.out; simp [cat]; omega) (by simp) (by simp; omega))
        have F5 := Lib.hid (HF4.out.alloc hB4 (.cells (tcells [⟨#[32]⟩]) 9))
        have A5 := Lib.hid ((Below.refl W4.heap.size W4).alloc (Nat.le_refl _) (.cells (tcells [⟨#[32]⟩]) 9))
        go_wp2_with fail
        refine P5.out.mono ?_
        rintro e w5 ⟨rfl, hW5, hF5⟩
        have HB5 := Lib.hid (Nat.le_trans (Nat.le_trans hB4 A5.out.size) hF5.1.size)
        have HW5 := Lib.hid hW5
        have HF5 := Lib.hid (F5.out.trans hF5)
        have HP5 : Hid (EB w5 gp k t nv av) := hF5.keep (row_below A5.out HP4.out) (by decide) hgpb
        have HAT5 := Lib.hid (Et.At.keeps (Keeps.of_fr (HW4.out.alloc (.cells (tcells [⟨#[32]⟩]) 9)) hF5) _ _ (Et.At.keeps (Keeps.of_below A5.out) _ _ HAT4.out))
        have HTC5 := Lib.hid (HTC.out B b _ S _ w5 HAT5.out HW5.out (by have h1 := HLE.out; simp [cat]; omega) HB5.out)
        clear hW5 hF5 P5
        go_wp2_with (refine wpList_load_row rfl 28 _ rfl gp rfl 28 #[.int .i64 k, .string t, nv, av] (0, 0) _ HP5.out Try.underlying28 rfl info28 ?_)
        refine HTC5.out.mono ?_
        rintro e w6 ⟨rfl, hW6, hF6⟩
        have HNX : Hid (FmInv B b l1 hb l w (.int .i64 ((j : Int) + 1)) w6) := ⟨j + 1, by omega, by go_num, by have h1 := HTK.out; rw [h1, ← List.append_assoc]; simpa [cat, hcond] using hW6, HF5.out.trans hF6⟩
        clear hW6 hF6 HTC5
        go_wp2_with fail
        go_roundw
        case rel => exact HNX.out
        case measure => simp [intOf]; omega
      · have q2 : decide ((0 : Int) < (j : Int)) = false := decide_eq_false (by omega)
        cases hb with
        | true =>
          have hcond : (true || decide (0 < j)) = true := rfl
          rw [hcond] at HLE
          simp only [if_true, List.length_cons, List.length_nil] at HLE
          have P5 := Lib.hid (put_any B b (l1 ++ Et.wrs true (l.take j)) [⟨#[32]⟩] _ _ _ (NAt.lits W4 [⟨#[32]⟩]) (HW4.out.alloc _) (by have h1 := HLE.out; simp [cat]; omega) (by simp) (by simp; omega))
          have F5 := Lib.hid (HF4.out.alloc hB4 (.cells (tcells [⟨#[32]⟩]) 9))
          have A5 := Lib.hid ((Below.refl W4.heap.size W4).alloc (Nat.le_refl _) (.cells (tcells [⟨#[32]⟩]) 9))
          go_wp2_with fail
          refine P5.out.mono ?_
          rintro e w5 ⟨rfl, hW5, hF5⟩
          have HB5 := Lib.hid (Nat.le_trans (Nat.le_trans hB4 A5.out.size) hF5.1.size)
          have HW5 := Lib.hid hW5
          have HF5 := Lib.hid (F5.out.trans hF5)
          have HP5 : Hid (EB w5 gp k t nv av) := hF5.keep (row_below A5.out HP4.out) (by decide) hgpb
          have HAT5 := Lib.hid (Et.At.keeps (Keeps.of_fr (HW4.out.alloc (.cells (tcells [⟨#[32]⟩]) 9)) hF5) _ _ (Et.At.keeps (Keeps.of_below A5.out) _ _ HAT4.out))
          have HTC5 := Lib.hid (HTC.out B b _ S _ w5 HAT5.out HW5.out (by have h1 := HLE.out; simp [cat]; omega) HB5.out)
          clear hW5 hF5 P5
          go_wp2_with (refine wpList_load_row rfl 28 _ rfl gp rfl 28 #[.int .i64 k, .string t, nv, av] (0, 0) _ HP5.out Try.underlying28 rfl info28 ?_)
          refine HTC5.out.mono ?_
          rintro e w6 ⟨rfl, hW6, hF6⟩
          have HNX : Hid (FmInv B b l1 true l w (.int .i64 ((j : Int) + 1)) w6) := ⟨j + 1, by omega, by go_num, by have h1 := HTK.out; rw [h1, ← List.append_assoc]; simpa [cat, hcond] using hW6, HF5.out.trans hF6⟩
          clear hW6 hF6 HTC5
          go_wp2_with fail
          go_roundw
          case rel => exact HNX.out
          case measure => simp [intOf]; omega
        | false =>
          have hcond : (false || decide (0 < j)) = false := by simp [hj0]
          rw [hcond] at HLE
          simp only [if_false, List.length_nil, Bool.false_eq_true] at HLE
          have HTC5 := Lib.hid (HTC.out B b _ S _ W4 HAT4.out HW4.out (by have h1 := HLE.out; simp only [List.length_append]; omega) hB4)
          have HF5 := HF4
          have HP5 := HP4
          go_wp2_with (refine wpList_load_row rfl 28 _ rfl gp rfl 28 #[.int .i64 k, .string t, nv, av] (0, 0) _ HP5.out Try.underlying28 rfl info28 ?_)
          refine HTC5.out.mono ?_
          rintro e w6 ⟨rfl, hW6, hF6⟩
          have HNX : Hid (FmInv B b l1 false l w (.int .i64 ((j : Int) + 1)) w6) := ⟨j + 1, by omega, by go_num, by have h1 := HTK.out; rw [h1, ← List.append_assoc]; simpa [hcond] using hW6, HF5.out.trans hF6⟩
          clear hW6 hF6 HTC5
          go_wp2_with fail
          go_roundw
          case rel => exact HNX.out
          case measure => simp [intOf]; omega
    · have q1 : decide ((j : Int) < (l.length : Int)) = false := decide_eq_false (by omega)
      obtain rfl : j = l.length := by omega
      have HWE : Hid (Wr B b (l1 ++ Et.wrs hb l) wr) := by show _; have := HWJ.out; rw [List.take_length] at this; exact this
      have P8 := Lib.hid (put_any B b (l1 ++ Et.wrs hb l) [⟨#[41]⟩] _ _ _ (NAt.lits wr [⟨#[41]⟩]) (HWE.out.alloc _) (by have h1 := HL1.out; simp [cat]; omega) (by simp) (by simp; omega))
      have F8 := Lib.hid (HFJ.out.alloc hBr (.cells (tcells [⟨#[41]⟩]) 9))
      go_wp2_with fail
      refine P8.out.mono ?_
      rintro e w9 ⟨rfl, hW9, hF9⟩
      have HW9 : Hid (Wr B b (l1 ++ Et.wrs hb l ++ [41]) w9) := by show Wr B b (l1 ++ Et.wrs hb l ++ [41]) w9; simpa [cat] using hW9
      have HF9 := Lib.hid (F8.out.trans hF9)
      clear hW9 hF9
      go_wp2_with fail
      go_end0
      exact ⟨rfl, HW9.out, HF9.out⟩
end Go.Proofs.Ytpkcoplpfenliaa
/- The writer's let. -/
namespace Go.Proofs.Ytpkcoplpfenliaa
open Go.RowKit Go.BigM
set_option linter.unusedVariables false
set_option linter.unusedSimpArgs false
def ltx (ns : List ByteArray) (l : List Et) : List UInt8 := [40, 108, 101, 116, 32, 40] ++ Et.wrb false ns l ++ [41] ++ Et.wrl ns l ++ [41]
def LtInv (B b : Nat) (l0 : List UInt8) (ns : List ByteArray) (l : List Et) (w : World) (iv : Value) (wr : World) : Prop :=
  ∃ j : Nat, j ≤ ns.length ∧ iv = .int .i64 (j : Int) ∧ Wr B b (l0 ++ Et.wrb false (ns.take j) (l.take j)) wr ∧ Fr B b w wr
def L2Inv (B b : Nat) (lz : List UInt8) (e : Et) (w : World) (iv : Value) (wr : World) : Prop :=
  (iv = .int .i64 0 ∧ Wr B b lz wr ∧ Fr B b w wr) ∨ (iv = .int .i64 1 ∧ Wr B b (lz ++ 32 :: e.wr) wr ∧ Fr B b w wr)
set_option maxHeartbeats 8000000 in
set_option maxRecDepth 100000 in
theorem let_any (ns : List ByteArray) (l : List Et) (ih : ∀ e ∈ l, TC e) (hll : l.length = ns.length + 1) (hne : ∀ s ∈ ns, s.toList.isEmpty = false) (B b : Nat) (l0 : List UInt8) (S : Nat → Prop) (nv0 av0 : Value) (w : World) (hnat : NAt S w nv0 ns) (hat : AAt S w av0 l) (hW : Wr B b l0 w) (hlen : l0.length + (ltx ns l).length ≤ 1000000000) (hBw : B ≤ w.heap.size) (hl : l.length ≤ 100000) :
    Calls Try.prog 59 #[.pointer (some ⟨b, 0, none⟩), nv0, av0] w (RetPut B b (l0 ++ ltx ns l) w) := by
  obtain ⟨ao, cap, rfl⟩ := hat.form
  obtain ⟨no, nc, rfl⟩ := hnat.form
  have hcap := hat.caps
  have hao : ∃ g o, ao = some ⟨g, o, none⟩ := by
    rcases hat with ⟨_, rfl⟩ | ⟨g, o, cap', arr, fz, e, _⟩
    · simp at hll
    · injection e with e1; exact ⟨g, o, e1⟩
  obtain ⟨g0, o0, rfl⟩ := hao
  have HAT := Lib.hid hat
  have HNAT := Lib.hid hnat
  have IH := Lib.hid ih
  have HLL := Lib.hid hll
  have HNE := Lib.hid hne
  have hbw := hW.lt
  have hlen2 : l0.length + (6 + ((Et.wrb false ns l).length + (1 + ((Et.wrl ns l).length + 1)))) ≤ 1000000000 := by
    have := hlen
    unfold ltx at this
    simp only [List.length_append, List.length_cons, List.length_nil] at this
    omega
  have P0 := Lib.hid (put_any B b l0 [⟨#[40, 108, 101, 116, 32, 40]⟩] _ _ _ (NAt.lits w [⟨#[40, 108, 101, 116, 32, 40]⟩]) (hW.alloc _) (by simp [cat]; omega) (by simp) (by simp; omega))
  have F0 := Lib.hid ((Fr.refl B b w).alloc hBw (.cells (tcells [⟨#[40, 108, 101, 116, 32, 40]⟩]) 9))
  have HW0 := Lib.hid hW
  have HFM : Hid (l0 ++ ltx ns l = l0 ++ cat [⟨#[40, 108, 101, 116, 32, 40]⟩] ++ Et.wrb false ns l ++ [41] ++ Et.wrl ns l ++ [41]) := by
    show _ = _
    unfold ltx; simp [cat]
  rw [HFM.out]
  obtain ⟨l1, hl1e⟩ : ∃ l1, l1 = l0 ++ cat [⟨#[40, 108, 101, 116, 32, 40]⟩] := ⟨_, rfl⟩
  rw [← hl1e] at P0 ⊢
  have hl1 : l1.length + ((Et.wrb false ns l).length + (1 + ((Et.wrl ns l).length + 1))) ≤ 1000000000 := by rw [hl1e]; simp [cat]; omega
  have HL1 := Lib.hid hl1
  obtain ⟨m, hm⟩ : ∃ m, m = ns.length := ⟨_, rfl⟩
  have hlm : l.length = m + 1 := by omega
  have hmin : min (m : Int) ((m : Int) + 1) = (m : Int) := Int.min_eq_left (by omega)
  have hm1 : m ≤ cap := by omega
  have hm2 : (m : Int) ≤ (cap : Int) := by omega
  have HM := Lib.hid hm
  clear hat hnat hW hlen hlen2 ih hl1 hl1e HFM hll hne
  rw [← hm]
  rw [hlm] at hcap hl ⊢
  have HLM := Lib.hid hlm
  clear hm hlm
  go_enter Try.func59, Try.ntmps59
  go_wp2_with fail
  refine P0.out.mono ?_
  rintro e w1 ⟨rfl, hW1, hF1⟩
  have HW1 := Lib.hid hW1
  have HF1 := Lib.hid (F0.out.trans hF1)
  have hc0 : ¬ cap = 0 := by omega
  clear hW1 hF1 P0 F0
  go_wp2_with fail
  go_loopw [23] (fun iv wr => LtInv B b l1 ns l w iv wr) (fun iv _ => ns.length - (intOf iv).toNat)
  case atStart => exact ⟨0, Nat.zero_le _, rfl, by simpa [Et.wrb] using HW1.out, HF1.out⟩
  case round =>
    obtain ⟨j, hj, rfl, hWj, hFj⟩ := hrel
    have HWJ := Lib.hid hWj
    have HFJ := Lib.hid hFj
    have HATJ := Lib.hid (HAT.out.keeps (Keeps.of_fr HW0.out hFj))
    have HNJ := Lib.hid (HNAT.out.keeps (Keeps.of_fr HW0.out hFj))
    have hBr : B ≤ wr.heap.size := by have h1 := hFj.1.size; omega
    clear hWj hFj
    by_cases hlt : j < m
    · have q1 : decide ((j : Int) < (m : Int)) = true := decide_eq_true (by omega)
      have hjl : j < l.length := by have := HLM.out; omega
      have hjn : j < ns.length := by have := HM.out; omega
      obtain ⟨g, o, k, t, nv, av, ego, hS, -, hatj, e0, e1, e2, e3, o1, o2⟩ := HATJ.out.get j hjl
      injection ego with ego
      injection ego with eg eo
      subst eg eo
      have z0 : (#[.int .i64 k, .string t, nv, av] : Array Value).all (·.oneCell') = true := by simp [Value.oneCell'] at o1 o2 ⊢; exact ⟨o1, o2⟩
      have HTC := Lib.hid (IH.out _ (List.getElem_mem hjl))
      have HTK := Lib.hid (wrb_take ns l false j hjl hjn)
      obtain ⟨gn, on, rfl, -, -⟩ := HNJ.out.get j hjn
      obtain ⟨x, hx⟩ : ∃ x, ns[j] = x := ⟨_, rfl⟩
      have HXE : Hid (x.toList.isEmpty = false) := by rw [← hx]; exact HNE.out _ (List.getElem_mem hjn)
      have HLE : Hid (l1.length + (Et.wrb false (ns.take j) (l.take j)).length + ((if (0 < j) then [32] else ([] : List UInt8)).length + (3 + x.data.toList.length + l[j].wr.length)) ≤ 1000000000) := by
        show _ ≤ _
        have h1 := wrb_take_le ns l false (j + 1)
        have h2 := HL1.out
        rw [HTK.out, hx] at h1
        simp only [List.length_append, List.length_cons, List.length_nil, Bool.false_or, decide_eq_true_eq] at h1
        omega
      rw [hx] at HTK
      have HATJ2 := Lib.hid hatj
      have hb9 := HWJ.out.lt
      have HX := Lib.hid hx
      clear hatj hS hx
      go_upto_region 5 with (refine wpList_store_row rfl 28 _ _ rfl wr.heap.size #[.int .i64 k, .string t, nv, av] rfl rfl 28 Z4 (alloc_at _ _) info28 rfl z0 ?_)
      try simp only [Act.put]
      have E0 : (wr.alloc (.cells #[.int .i64 0, .string ⟨#[]⟩, .slice none 0 0, .slice none 0 0] 28)).setRow wr.heap.size #[.int .i64 k, .string t, nv, av] = wr.alloc (.cells #[.int .i64 k, .string t, nv, av] 28) := setRow_new _ _ _ _
      try rw [E0]
      clear E0
      have A4 := (Below.refl wr.heap.size wr).alloc (Nat.le_refl _) (.cells #[.int .i64 k, .string t, nv, av] 28)
      have HW4 := Lib.hid (HWJ.out.alloc (.cells #[.int .i64 k, .string t, nv, av] 28))
      have HF4 := Lib.hid (HFJ.out.alloc hBr (.cells #[.int .i64 k, .string t, nv, av] 28))
      have HP4 : Hid (EB (wr.alloc (.cells #[.int .i64 k, .string t, nv, av] 28)) wr.heap.size k t nv av) := alloc_at _ _
      have HAT4 := Lib.hid (Et.At.keeps (Keeps.of_below A4) _ _ HATJ2.out)
      have HN4 := Lib.hid (HNJ.out.keeps (Keeps.of_below A4))
      have hB4 : B ≤ (wr.alloc (.cells #[.int .i64 k, .string t, nv, av] 28)).heap.size := by simp; omega
      have hgp4 : wr.heap.size < (wr.alloc (.cells #[.int .i64 k, .string t, nv, av] 28)).heap.size := by simp
      have hgpb : wr.heap.size ≠ b := by omega
      clear A4
      generalize wr.alloc (.cells #[.int .i64 k, .string t, nv, av] 28) = W4 at HW4 HF4 HP4 HAT4 HN4 hB4 hgp4 ⊢
      generalize wr.heap.size = gp at HP4 hgpb hgp4 ⊢
      clear e0 e1 e2 e3 hb9 HATJ HATJ2 HNJ hBr
      by_cases hj0 : 0 < j
      · have q2 : decide ((0 : Int) < (j : Int)) = true := decide_eq_true (by omega)
        rw [if_pos hj0] at HLE
        simp only [List.length_cons, List.length_nil] at HLE
        have P5 := Lib.hid (put_any B b (l1 ++ Et.wrb false (ns.take j) (l.take j)) [⟨#[32]⟩] _ _ _ (NAt.lits W4 [⟨#[32]⟩]) (HW4.out.alloc _) (by have h1 := HLE.out; simp [cat]; omega) (by simp) (by simp; omega))
        have F5 := Lib.hid (HF4.out.alloc hB4 (.cells (tcells [⟨#[32]⟩]) 9))
        have A5 := Lib.hid ((Below.refl W4.heap.size W4).alloc (Nat.le_refl _) (.cells (tcells [⟨#[32]⟩]) 9))
        go_wp2_with fail
        refine P5.out.mono ?_
        rintro e w5 ⟨rfl, hW5, hF5⟩
        have hB5 : B ≤ w5.heap.size := Nat.le_trans (Nat.le_trans hB4 A5.out.size) hF5.1.size
        have hgp5 : gp < w5.heap.size := Nat.lt_of_lt_of_le hgp4 (Nat.le_trans A5.out.size hF5.1.size)
        have HW5 := Lib.hid hW5
        have HF5 := Lib.hid (F5.out.trans hF5)
        have HP5 : Hid (EB w5 gp k t nv av) := hF5.keep (row_below A5.out HP4.out) (by decide) hgpb
        have HAT5 := Lib.hid (Et.At.keeps (Keeps.of_fr (HW4.out.alloc (.cells (tcells [⟨#[32]⟩]) 9)) hF5) _ _ (Et.At.keeps (Keeps.of_below A5.out) _ _ HAT4.out))
        have HN5 := Lib.hid ((HN4.out.keeps (Keeps.of_below A5.out)).keeps (Keeps.of_fr (HW4.out.alloc (.cells (tcells [⟨#[32]⟩]) 9)) hF5))
        clear hW5 hF5 P5 F5 A5 HW4 HF4 HP4 HAT4 HN4 hB4 hgp4
        have HNC : Hid (∀ w', Fr B b w5 w' → w'.cell? ⟨gn, on + j, none⟩ = some (.string x)) := by
          show ∀ w', _ → _
          intro w' hw'
          obtain ⟨g2, o2, e2, -, h2⟩ := (HN5.out.keeps (Keeps.of_fr HW5.out hw')).get j hjn
          injection e2 with e2
          injection e2 with e3 e4
          subst e3 e4
          rw [← HX.out]; exact h2
        have HPC : Hid (∀ w', Fr B b w5 w' → w'.cell? ⟨gp, 0, none⟩ = some (.int .i64 k) ∧ w'.cell? ⟨gp, 1, none⟩ = some (.string t) ∧ w'.cell? ⟨gp, 2, none⟩ = some nv ∧ w'.cell? ⟨gp, 3, none⟩ = some av) := fun w' hw' => EB.cell w' gp k t nv av (hw'.keep HP5.out (by decide) hgpb)
        have HNX : Hid (∀ W', Wr B b ((l1 ++ Et.wrb false (ns.take j) (l.take j) ++ cat [⟨#[32]⟩]) ++ fmt x [l[j]]) W' → Fr B b w5 W' → LtInv B b l1 ns l w (.int .i64 ((j : Int) + 1)) W') := by
          show ∀ W', _ → _ → _
          intro W' h1 h2
          refine ⟨j + 1, by have := HM.out; omega, by go_num, ?_, HF5.out.trans h2⟩
          rw [HTK.out]
          have h3 := HXE.out
          unfold fmt at h1
          simp [Et.wrs, h3, cat, hj0] at h1 ⊢
          exact h1
        have HLC : Hid ((l1 ++ Et.wrb false (ns.take j) (l.take j) ++ cat [⟨#[32]⟩]).length + (fmt x [l[j]]).length ≤ 1000000000) := by
          show _ ≤ _
          have h1 := HLE.out
          have h3 := HXE.out
          unfold fmt
          simp [Et.wrs, h3, cat] at h1 ⊢
          omega
        have HS0 : Hid (Fr B b w5 w5.drew) := (Fr.refl _ _ _).drew
        have HWD : Hid (Wr B b (l1 ++ Et.wrb false (ns.take j) (l.take j) ++ cat [⟨#[32]⟩]) w5.drew) := HW5.out.drew
        have HAD := Lib.hid (Et.At.keeps (Keeps.of_below ((Below.refl w5.heap.size w5).drew)) _ _ HAT5.out)
        have hBD : B ≤ w5.drew.heap.size := hB5
        clear HF5 HP5 HAT5 HN5 HTK HLE hgp5
        go_upto_region 7 with fail
        refine wp_region_noPanic ?_
        refine wp_region_held_drew (S := Fr B b w5) (by kernel_rfl) HS0.out (fun hHeld => ?_)
        generalize w5.drew = X at HS0 HWD HAD hBD hHeld ⊢
        refine wpAnyH_take (i := 0) (v := Value.pointer (some ⟨b, 0, none⟩)) rfl (by kernel_rfl) (by kernel_rfl) (by kernel_rfl) (fun _ _ _ h => h) (Or.inl ⟨rfl, fun w' hw' => ?_⟩) hHeld ?_
        · go_simp
        simp only [List.getElem_toArray, List.getElem_cons_succ, List.getElem_cons_zero, Act.put, List.setIfInBounds_toArray, List.set_cons_zero, List.set_cons_succ]
        refine wpAnyH_take (i := 1) (v := Value.slice (some ⟨gn, on, none⟩) m nc) rfl (by kernel_rfl) (by kernel_rfl) (by kernel_rfl) (fun _ _ _ h => h) (Or.inl ⟨rfl, fun w' hw' => ?_⟩) hHeld ?_
        · go_simp
        simp only [List.getElem_toArray, List.getElem_cons_succ, List.getElem_cons_zero, Act.put, List.setIfInBounds_toArray, List.set_cons_zero, List.set_cons_succ]
        refine wpAnyH_take (i := 2) (v := Value.int .i64 (j : Int)) rfl (by kernel_rfl) (by kernel_rfl) (by kernel_rfl) (fun _ _ _ h => h) (Or.inl ⟨rfl, fun w' hw' => ?_⟩) hHeld ?_
        · go_simp
        simp only [List.getElem_toArray, List.getElem_cons_succ, List.getElem_cons_zero, Act.put, List.setIfInBounds_toArray, List.set_cons_zero, List.set_cons_succ]
        refine wpAnyH_take (i := 3) (v := Value.pointer (some ⟨gn, on + j, none⟩)) rfl (by kernel_rfl) (by kernel_rfl) (by kernel_rfl) (fun _ _ _ h => h) (Or.inl ⟨rfl, fun w' hw' => ?_⟩) hHeld ?_
        · go_simp
        simp only [List.getElem_toArray, List.getElem_cons_succ, List.getElem_cons_zero, Act.put, List.setIfInBounds_toArray, List.set_cons_zero, List.set_cons_succ]
        refine wpAnyH_take (i := 4) (v := Value.string x) rfl (by kernel_rfl) (by kernel_rfl) (by kernel_rfl) (fun _ _ _ h => h) (Or.inl ⟨rfl, fun w' hw' => ?_⟩) hHeld ?_
        · have q9 := HNC.out w' hw'; go_simp
        simp only [List.getElem_toArray, List.getElem_cons_succ, List.getElem_cons_zero, Act.put, List.setIfInBounds_toArray, List.set_cons_zero, List.set_cons_succ]
        refine wpAnyH_take (i := 5) (v := Value.agg #[.int .i64 k, .string t, nv, av]) rfl (by kernel_rfl) (by kernel_rfl) (by kernel_rfl) (fun _ _ _ h => h) (Or.inl ⟨rfl, fun w' hw' => ?_⟩) hHeld ?_
        · obtain ⟨d0, d1, d2, d3⟩ := HPC.out w' hw'; go_simp
        simp only [List.getElem_toArray, List.getElem_cons_succ, List.getElem_cons_zero, Act.put, List.setIfInBounds_toArray, List.set_cons_zero, List.set_cons_succ]
        refine wpAnyH_ready (rs := [6]) (by kernel_rfl) (by simp) ?_
        refine (AllReadyH.cons rfl (fun K hK => ?_) AllReadyH.nil)
        go_simp
        have HS6 : Hid (Fr B b w5 (X.alloc (.cells #[.int .i64 k, .string t, nv, av] 28))) := HS0.out.alloc hBD _
        have HFA := Lib.hid (form_any [l[j]] (fun e he => by simp at he; subst he; exact HTC.out) B b (l1 ++ Et.wrb false (ns.take j) (l.take j) ++ cat [⟨#[32]⟩]) x (fun _ => True) (.slice (some ⟨X.heap.size, 0, none⟩) 1 1) (X.alloc (.cells #[.int .i64 k, .string t, nv, av] 28)) (one_at1 trivial (Et.At.mono (fun _ _ => trivial) _ _ (Et.At.keeps (Keeps.of_below ((Below.refl X.heap.size X).alloc (Nat.le_refl _) _)) _ _ HAD.out)) (alloc_at _ _)) (HWD.out.alloc _) HLC.out (by simp; omega) (by simp))
        refine hK.out _ _ HS6.out (fun hHeld => ?_)
        clear hK K
        try simp only [List.getElem_toArray, List.getElem_cons_succ, List.getElem_cons_zero, Act.put, List.setIfInBounds_toArray, List.set_cons_zero, List.set_cons_succ]
        refine wpAnyH_ready (rs := [7]) (by kernel_rfl) (by simp) ?_
        refine (AllReadyH.cons rfl (fun K hK => ?_) AllReadyH.nil)
        go_simp
        refine HFA.out.mono ?_
        rintro e w6 ⟨rfl, hW6, hF6⟩
        have HF7 := Lib.hid (HS6.out.trans hF6)
        have HN7 := Lib.hid (HNX.out _ hW6 HF7.out)
        clear hW6 hF6
        refine hK.out _ _ HF7.out (fun hHeld => ?_)
        clear hK K
        try simp only [List.getElem_toArray, List.getElem_cons_succ, List.getElem_cons_zero, Act.put, List.setIfInBounds_toArray, List.set_cons_zero, List.set_cons_succ]
        refine wpAnyH_done (by kernel_rfl) ?_ _
        refine NoPanic.normal ?_
        clear hHeld
        go_wp2_with fail
        go_roundw
        case rel => exact HN7.out
        case measure => have := HM.out; simp [intOf]; omega
      · have q2 : decide ((0 : Int) < (j : Int)) = false := decide_eq_false (by omega)
        have HW5 := HW4
        have HF5 := HF4
        have HP5 := HP4
        have HAT5 := HAT4
        have HN5 := HN4
        have hB5 := hB4
        have hgp5 := hgp4
        obtain ⟨w5, hw5⟩ : ∃ w5, w5 = W4 := ⟨_, rfl⟩
        rw [← hw5] at HW5 HF5 HP5 HAT5 HN5 hB5 hgp5 ⊢
        rw [if_neg hj0] at HLE
        simp only [List.length_nil] at HLE
        clear HW4 HF4 HP4 HAT4 HN4 hB4 hgp4 hw5
        have HNC : Hid (∀ w', Fr B b w5 w' → w'.cell? ⟨gn, on + j, none⟩ = some (.string x)) := by
          show ∀ w', _ → _
          intro w' hw'
          obtain ⟨g2, o2, e2, -, h2⟩ := (HN5.out.keeps (Keeps.of_fr HW5.out hw')).get j hjn
          injection e2 with e2
          injection e2 with e3 e4
          subst e3 e4
          rw [← HX.out]; exact h2
        have HPC : Hid (∀ w', Fr B b w5 w' → w'.cell? ⟨gp, 0, none⟩ = some (.int .i64 k) ∧ w'.cell? ⟨gp, 1, none⟩ = some (.string t) ∧ w'.cell? ⟨gp, 2, none⟩ = some nv ∧ w'.cell? ⟨gp, 3, none⟩ = some av) := fun w' hw' => EB.cell w' gp k t nv av (hw'.keep HP5.out (by decide) hgpb)
        have HNX : Hid (∀ W', Wr B b ((l1 ++ Et.wrb false (ns.take j) (l.take j)) ++ fmt x [l[j]]) W' → Fr B b w5 W' → LtInv B b l1 ns l w (.int .i64 ((j : Int) + 1)) W') := by
          show ∀ W', _ → _ → _
          intro W' h1 h2
          refine ⟨j + 1, by have := HM.out; omega, by go_num, ?_, HF5.out.trans h2⟩
          rw [HTK.out]
          have h3 := HXE.out
          unfold fmt at h1
          simp [Et.wrs, h3, cat, hj0] at h1 ⊢
          exact h1
        have HLC : Hid ((l1 ++ Et.wrb false (ns.take j) (l.take j)).length + (fmt x [l[j]]).length ≤ 1000000000) := by
          show _ ≤ _
          have h1 := HLE.out
          have h3 := HXE.out
          unfold fmt
          simp [Et.wrs, h3, cat] at h1 ⊢
          omega
        have HS0 : Hid (Fr B b w5 w5.drew) := (Fr.refl _ _ _).drew
        have HWD : Hid (Wr B b (l1 ++ Et.wrb false (ns.take j) (l.take j)) w5.drew) := HW5.out.drew
        have HAD := Lib.hid (Et.At.keeps (Keeps.of_below ((Below.refl w5.heap.size w5).drew)) _ _ HAT5.out)
        have hBD : B ≤ w5.drew.heap.size := hB5
        clear HF5 HP5 HAT5 HN5 HTK HLE hgp5
        go_upto_region 7 with fail
        refine wp_region_noPanic ?_
        refine wp_region_held_drew (S := Fr B b w5) (by kernel_rfl) HS0.out (fun hHeld => ?_)
        generalize w5.drew = X at HS0 HWD HAD hBD hHeld ⊢
        refine wpAnyH_take (i := 0) (v := Value.pointer (some ⟨b, 0, none⟩)) rfl (by kernel_rfl) (by kernel_rfl) (by kernel_rfl) (fun _ _ _ h => h) (Or.inl ⟨rfl, fun w' hw' => ?_⟩) hHeld ?_
        · go_simp
        simp only [List.getElem_toArray, List.getElem_cons_succ, List.getElem_cons_zero, Act.put, List.setIfInBounds_toArray, List.set_cons_zero, List.set_cons_succ]
        refine wpAnyH_take (i := 1) (v := Value.slice (some ⟨gn, on, none⟩) m nc) rfl (by kernel_rfl) (by kernel_rfl) (by kernel_rfl) (fun _ _ _ h => h) (Or.inl ⟨rfl, fun w' hw' => ?_⟩) hHeld ?_
        · go_simp
        simp only [List.getElem_toArray, List.getElem_cons_succ, List.getElem_cons_zero, Act.put, List.setIfInBounds_toArray, List.set_cons_zero, List.set_cons_succ]
        refine wpAnyH_take (i := 2) (v := Value.int .i64 (j : Int)) rfl (by kernel_rfl) (by kernel_rfl) (by kernel_rfl) (fun _ _ _ h => h) (Or.inl ⟨rfl, fun w' hw' => ?_⟩) hHeld ?_
        · go_simp
        simp only [List.getElem_toArray, List.getElem_cons_succ, List.getElem_cons_zero, Act.put, List.setIfInBounds_toArray, List.set_cons_zero, List.set_cons_succ]
        refine wpAnyH_take (i := 3) (v := Value.pointer (some ⟨gn, on + j, none⟩)) rfl (by kernel_rfl) (by kernel_rfl) (by kernel_rfl) (fun _ _ _ h => h) (Or.inl ⟨rfl, fun w' hw' => ?_⟩) hHeld ?_
        · go_simp
        simp only [List.getElem_toArray, List.getElem_cons_succ, List.getElem_cons_zero, Act.put, List.setIfInBounds_toArray, List.set_cons_zero, List.set_cons_succ]
        refine wpAnyH_take (i := 4) (v := Value.string x) rfl (by kernel_rfl) (by kernel_rfl) (by kernel_rfl) (fun _ _ _ h => h) (Or.inl ⟨rfl, fun w' hw' => ?_⟩) hHeld ?_
        · have q9 := HNC.out w' hw'; go_simp
        simp only [List.getElem_toArray, List.getElem_cons_succ, List.getElem_cons_zero, Act.put, List.setIfInBounds_toArray, List.set_cons_zero, List.set_cons_succ]
        refine wpAnyH_take (i := 5) (v := Value.agg #[.int .i64 k, .string t, nv, av]) rfl (by kernel_rfl) (by kernel_rfl) (by kernel_rfl) (fun _ _ _ h => h) (Or.inl ⟨rfl, fun w' hw' => ?_⟩) hHeld ?_
        · obtain ⟨d0, d1, d2, d3⟩ := HPC.out w' hw'; go_simp
        simp only [List.getElem_toArray, List.getElem_cons_succ, List.getElem_cons_zero, Act.put, List.setIfInBounds_toArray, List.set_cons_zero, List.set_cons_succ]
        refine wpAnyH_ready (rs := [6]) (by kernel_rfl) (by simp) ?_
        refine (AllReadyH.cons rfl (fun K hK => ?_) AllReadyH.nil)
        go_simp
        have HS6 : Hid (Fr B b w5 (X.alloc (.cells #[.int .i64 k, .string t, nv, av] 28))) := HS0.out.alloc hBD _
        have HFA := Lib.hid (form_any [l[j]] (fun e he => by simp at he; subst he; exact HTC.out) B b (l1 ++ Et.wrb false (ns.take j) (l.take j)) x (fun _ => True) (.slice (some ⟨X.heap.size, 0, none⟩) 1 1) (X.alloc (.cells #[.int .i64 k, .string t, nv, av] 28)) (one_at1 trivial (Et.At.mono (fun _ _ => trivial) _ _ (Et.At.keeps (Keeps.of_below ((Below.refl X.heap.size X).alloc (Nat.le_refl _) _)) _ _ HAD.out)) (alloc_at _ _)) (HWD.out.alloc _) HLC.out (by simp; omega) (by simp))
        refine hK.out _ _ HS6.out (fun hHeld => ?_)
        clear hK K
        try simp only [List.getElem_toArray, List.getElem_cons_succ, List.getElem_cons_zero, Act.put, List.setIfInBounds_toArray, List.set_cons_zero, List.set_cons_succ]
        refine wpAnyH_ready (rs := [7]) (by kernel_rfl) (by simp) ?_
        refine (AllReadyH.cons rfl (fun K hK => ?_) AllReadyH.nil)
        go_simp
        refine HFA.out.mono ?_
        rintro e w6 ⟨rfl, hW6, hF6⟩
        have HF7 := Lib.hid (HS6.out.trans hF6)
        have HN7 := Lib.hid (HNX.out _ hW6 HF7.out)
        clear hW6 hF6
        refine hK.out _ _ HF7.out (fun hHeld => ?_)
        clear hK K
        try simp only [List.getElem_toArray, List.getElem_cons_succ, List.getElem_cons_zero, Act.put, List.setIfInBounds_toArray, List.set_cons_zero, List.set_cons_succ]
        refine wpAnyH_done (by kernel_rfl) ?_ _
        refine NoPanic.normal ?_
        clear hHeld
        go_wp2_with fail
        go_roundw
        case rel => exact HN7.out
        case measure => have := HM.out; simp [intOf]; omega
    · have q1 : decide ((j : Int) < (m : Int)) = false := decide_eq_false (by omega)
      obtain rfl : j = m := by have := HM.out; omega
      have HWE : Hid (Wr B b (l1 ++ Et.wrb false ns l) wr) := by
        show Wr B b (l1 ++ Et.wrb false ns l) wr
        have h1 := HWJ.out
        rw [HM.out, List.take_length, wrb_short] at h1
        exact h1
      have P8 := Lib.hid (put_any B b (l1 ++ Et.wrb false ns l) [⟨#[41]⟩] _ _ _ (NAt.lits wr [⟨#[41]⟩]) (HWE.out.alloc _) (by have h1 := HL1.out; simp [cat]; omega) (by simp) (by simp; omega))
      have F8 := Lib.hid (HFJ.out.alloc hBr (.cells (tcells [⟨#[41]⟩]) 9))
      clear HATJ HNJ HWJ HWE
      go_wp2_with fail
      refine P8.out.mono ?_
      rintro e w9 ⟨rfl, hW9, hF9⟩
      have HW9 : Hid (Wr B b (l1 ++ Et.wrb false ns l ++ [41]) w9) := by show Wr B b (l1 ++ Et.wrb false ns l ++ [41]) w9; simpa [cat] using hW9
      have HF9 := Lib.hid (F8.out.trans hF9)
      have hcj : ¬ cap = j := by omega
      have hjm : j < l.length := by have := HLM.out; omega
      have HWL : Hid (Et.wrl ns l = 32 :: l[j].wr) := by
        show _ = _
        have h1 := HM.out
        subst h1
        exact wrl_last ns l hjm HLM.out
      have hl2 := HL1.out
      rw [HWL.out] at hl2
      simp only [List.length_cons] at hl2
      have HLZ : Hid ((l1 ++ Et.wrb false ns l ++ [41]).length + l[j].wr.length + 2 ≤ 1000000000) := by show _ ≤ _; simp only [List.length_append, List.length_cons, List.length_nil]; omega
      obtain ⟨lz, hlz⟩ : ∃ lz, lz = l1 ++ Et.wrb false ns l ++ [41] := ⟨_, rfl⟩
      rw [← hlz] at HW9 HLZ
      have HEND : Hid (∀ W', Wr B b (lz ++ 32 :: l[j].wr ++ [41]) W' → Wr B b (l1 ++ Et.wrb false ns l ++ [41] ++ Et.wrl ns l ++ [41]) W') := by
        show ∀ W', _ → _
        intro W' h
        rw [HWL.out, ← hlz]; exact h
      have HTC := Lib.hid (IH.out _ (List.getElem_mem hjm))
      clear hW9 hF9 P8 F8 hl2 hlz HWL HFJ hBr
      clear hlt q1 hmin
      obtain ⟨ej, hej⟩ : ∃ ej, ej = l[j] := ⟨_, rfl⟩
      rw [← hej] at HTC HLZ HEND
      go_wp2_with fail
      go_loopw [49] (fun iv wr => L2Inv B b lz ej w iv wr) (fun iv _ => 1 - (intOf iv).toNat)
      case atStart => exact .inl ⟨rfl, HW9.out, HF9.out⟩
      case round =>
        clear HW9 HF9
        rcases hrel with ⟨rfl, hWj, hFj⟩ | ⟨rfl, hWj, hFj⟩
        · have HWJ := Lib.hid hWj
          have HFJ := Lib.hid hFj
          have HATJ := HAT.out.keeps (Keeps.of_fr HW0.out hFj)
          have hBr : B ≤ wr.heap.size := by have h1 := hFj.1.size; omega
          obtain ⟨g, o, k, t, nv, av, ego, hS, -, hatj, e0, e1, e2, e3, o1, o2⟩ := HATJ.get j hjm
          injection ego with ego
          injection ego with eg eo
          subst eg eo
          rw [← hej] at hatj
          have z0 : (#[.int .i64 k, .string t, nv, av] : Array Value).all (·.oneCell') = true := by simp [Value.oneCell'] at o1 o2 ⊢; exact ⟨o1, o2⟩
          have HATJ2 := Lib.hid hatj
          have hb9 := HWJ.out.lt
          have HEJ := Lib.hid hej
          clear hatj hS hWj hFj HATJ hej
          go_upto_region 13 with (refine wpList_store_row rfl 28 _ _ rfl wr.heap.size #[.int .i64 k, .string t, nv, av] rfl rfl 28 Z4 (alloc_at _ _) info28 rfl z0 ?_)
          try simp only [Act.put]
          have E0 : (wr.alloc (.cells #[.int .i64 0, .string ⟨#[]⟩, .slice none 0 0, .slice none 0 0] 28)).setRow wr.heap.size #[.int .i64 k, .string t, nv, av] = wr.alloc (.cells #[.int .i64 k, .string t, nv, av] 28) := setRow_new _ _ _ _
          try rw [E0]
          clear E0
          have A4 := (Below.refl wr.heap.size wr).alloc (Nat.le_refl _) (.cells #[.int .i64 k, .string t, nv, av] 28)
          have HW4 := Lib.hid (HWJ.out.alloc (.cells #[.int .i64 k, .string t, nv, av] 28))
          have HF4 := Lib.hid (HFJ.out.alloc hBr (.cells #[.int .i64 k, .string t, nv, av] 28))
          have HP4 : Hid (EB (wr.alloc (.cells #[.int .i64 k, .string t, nv, av] 28)) wr.heap.size k t nv av) := alloc_at _ _
          have HAT4 := Lib.hid (Et.At.keeps (Keeps.of_below A4) _ _ HATJ2.out)
          have hB4 : B ≤ (wr.alloc (.cells #[.int .i64 k, .string t, nv, av] 28)).heap.size := by simp; omega
          have hgpb : wr.heap.size ≠ b := by omega
          clear A4
          generalize wr.alloc (.cells #[.int .i64 k, .string t, nv, av] 28) = W4 at HW4 HF4 HP4 HAT4 hB4 ⊢
          generalize wr.heap.size = gp at HP4 hgpb ⊢
          clear e0 e1 e2 e3 hb9 HATJ2 hBr
          have P5 := Lib.hid (put_any B b lz [⟨#[32]⟩] _ _ _ (NAt.lits W4 [⟨#[32]⟩]) (HW4.out.alloc _) (by have h1 := HLZ.out; simp [cat]; omega) (by simp) (by simp; omega))
          have F5 := Lib.hid (HF4.out.alloc hB4 (.cells (tcells [⟨#[32]⟩]) 9))
          have A5 := Lib.hid ((Below.refl W4.heap.size W4).alloc (Nat.le_refl _) (.cells (tcells [⟨#[32]⟩]) 9))
          go_wp2_with fail
          refine P5.out.mono ?_
          rintro e w5 ⟨rfl, hW5, hF5⟩
          have hB5 : B ≤ w5.heap.size := Nat.le_trans (Nat.le_trans hB4 A5.out.size) hF5.1.size
          have HW5 := Lib.hid hW5
          have HF5 := Lib.hid (F5.out.trans hF5)
          have HP5 : Hid (EB w5 gp k t nv av) := hF5.keep (row_below A5.out HP4.out) (by decide) hgpb
          have HAT5 := Lib.hid (Et.At.keeps (Keeps.of_fr (HW4.out.alloc (.cells (tcells [⟨#[32]⟩]) 9)) hF5) _ _ (Et.At.keeps (Keeps.of_below A5.out) _ _ HAT4.out))
          have HTC5 := Lib.hid (HTC.out B b _ S _ w5 HAT5.out HW5.out (by have h1 := HLZ.out; simp [cat]; omega) hB5)
          clear hW5 hF5 P5 F5 A5 HW4 HF4 HP4 HAT4 hB4
          go_wp2_with (refine wpList_load_row rfl 28 _ rfl gp rfl 28 #[.int .i64 k, .string t, nv, av] (0, 0) _ HP5.out Try.underlying28 rfl info28 ?_)
          refine HTC5.out.mono ?_
          rintro e w6 ⟨rfl, hW6, hF6⟩
          have HNX : Hid (L2Inv B b lz ej w (.int .i64 1) w6) := .inr ⟨rfl, by simpa [cat] using hW6, HF5.out.trans hF6⟩
          clear hW6 hF6 HTC5
          go_wp2_with fail
          go_roundw
          case rel => exact HNX.out
          case measure => simp [intOf]
        · have HWJ := Lib.hid hWj
          have HFJ := Lib.hid hFj
          have hBr : B ≤ wr.heap.size := by have h1 := hFj.1.size; omega
          have P8 := Lib.hid (put_any B b (lz ++ 32 :: ej.wr) [⟨#[41]⟩] _ _ _ (NAt.lits wr [⟨#[41]⟩]) (HWJ.out.alloc _) (by have h1 := HLZ.out; simp [cat]; omega) (by simp) (by simp; omega))
          have F8 := Lib.hid (HFJ.out.alloc hBr (.cells (tcells [⟨#[41]⟩]) 9))
          clear hWj hFj hej
          go_wp2_with fail
          refine P8.out.mono ?_
          rintro e w9 ⟨rfl, hW9, hF9⟩
          have HW9 := Lib.hid (HEND.out w9 (by simpa [cat] using hW9))
          have HF9 := Lib.hid (F8.out.trans hF9)
          clear hW9 hF9
          go_wp2_with fail
          go_end0
          exact ⟨rfl, by simpa using HW9.out, HF9.out⟩
end Go.Proofs.Ytpkcoplpfenliaa
/- The writer's term; Text. -/
namespace Go.Proofs.Ytpkcoplpfenliaa
open Go.RowKit Go.BigM
set_option linter.unusedVariables false
set_option linter.unusedSimpArgs false
theorem jn_is : ∀ (ns : List ByteArray), Lib.join (ns.map (·.data.toList)) [32] = jn ns
  | [] => rfl
  | [s] => by simp [Lib.join, jn, List.intercalate]
  | s :: s2 :: l => by
    have := jn_is (s2 :: l)
    unfold Lib.join at this ⊢
    simp only [List.map_cons] at this ⊢
    rw [List.intercalate_cons_cons, this]
    simp [jn]
theorem join_any (ns : List ByteArray) (S : Nat → Prop) (nv : Value) (w : World) (h : NAt S w nv ns) (hl : (jn ns).length ≤ 1000000000) (hn : ns.length ≤ 1000000) : Calls Try.prog 58 #[nv, .string ⟨#[32]⟩] w (RetStr ⟨(jn ns).toArray⟩ w) := by
  rcases h with ⟨rfl, rfl⟩ | ⟨g, o, cap, arr, fz, rfl, hS, hg, hd, hc⟩
  · refine (Try.strings_Join_none none 0 ⟨#[32]⟩ w).mono ?_
    rintro e w' ⟨rfl, rfl⟩
    exact ⟨rfl, Below.refl _ _⟩
  · have := Try.strings_Join g o cap ns ⟨#[32]⟩ w (fun j x hx => by
      obtain ⟨hj, hx⟩ := List.getElem?_eq_some_iff.1 hx
      rw [Lib.cell_of_heap hg, ← hx]; exact hd j hj) (Array.getElem?_eq_some_iff.1 hg).1 (by omega) hc (by
      show (Lib.join (ns.map (·.data.toList)) [32]).length ≤ _
      rw [jn_is]; omega)
    refine this.mono ?_
    rintro e w' ⟨rfl, hb⟩
    refine ⟨?_, hb⟩
    show _ = Ending.returned (Value.string ⟨(jn ns).toArray⟩)
    rw [← jn_is]
theorem Wr.below {B b : Nat} {l : List UInt8} {w w' : World} (h : Wr B b l w) (k : Below w.heap.size w w') : Wr B b l w' := by
  have H : ∀ p, Lib.BuilderAt 63 5 B b p (Lib.byteCells l) w → Lib.BuilderAt 63 5 B b p (Lib.byteCells l) w' := by
    intro p h
    obtain ⟨hB, v, hb, hown, hne⟩ := h
    exact ⟨hB, v, row_below k hb, World.ownsRow.kept hown (grownRow_of k none) (by cases v.ownBlock <;> simp), hne⟩
  rcases h with h | h
  · exact .inl (H _ h)
  · exact .inr (H _ h)
theorem others_below {e : TypeId} {b : Option Nat} {w w' : World} (k : Below w.heap.size w w') : Lib.OthersKept e b w w' := fun i o hi _ _ => by
  rw [k.block i (Array.getElem?_eq_some_iff.1 hi).1]; exact hi
theorem arity_none : arity ⟨#[]⟩ = 0 := by simp [arity, arityIn, prims, Lib.toList_data]
set_option maxHeartbeats 8000000 in
set_option maxRecDepth 100000 in
theorem term1 (t : ByteArray) (ns : List ByteArray) (a : List Et) (ih : ∀ e ∈ a, TC e) (hl : a.length ≤ 100000) (hnl : ns.length ≤ 100) : TC (.mk 1 t ns a) := by
  intro B b l0 S cs w hat hW hlen hBw
  have HW := hW
  rw [wr_mk] at hlen ⊢
  rw [if_neg (show ¬ (1 : Int) = 3 by decide)] at hlen ⊢
  rw [if_neg (show ¬ (1 : Int) = 4 by decide)] at hlen ⊢
  rw [if_neg (show ¬ (1 : Int) = 6 by decide)] at hlen ⊢
  rw [if_neg (show ¬ (1 : Int) = 7 by decide)] at hlen ⊢
  rw [if_neg (show ¬ (1 : Int) = 8 by decide)] at hlen ⊢
  rw [if_neg (show ¬ (1 : Int) = 9 by decide)] at hlen ⊢
  rw [if_neg (show ¬ (1 : Int) = 10 by decide)] at hlen ⊢
  rw [EAt_mk] at hat
  obtain ⟨nv, av, rfl, hm, hla⟩ := hat
  have o1 := hm.one
  have o2 := hla.one
  obtain ⟨no, nc, rfl⟩ := hm.form
  obtain ⟨ao, ac, rfl⟩ := hla.form
  have A1 := Lib.hid ((Below.refl w.heap.size w).alloc (Nat.le_refl _) (.cells #[.int .i64 1, .string t, .slice no ns.length nc, .slice ao a.length ac] 28))
  have HW1 := Lib.hid (hW.alloc (.cells #[.int .i64 1, .string t, .slice no ns.length nc, .slice ao a.length ac] 28))
  have HF1 := Lib.hid ((Fr.refl B b w).alloc hBw (.cells #[.int .i64 1, .string t, .slice no ns.length nc, .slice ao a.length ac] 28))
  have HE1 : Hid (EB (w.alloc (.cells #[.int .i64 1, .string t, .slice no ns.length nc, .slice ao a.length ac] 28)) w.heap.size 1 t (.slice no ns.length nc) (.slice ao a.length ac)) := alloc_at _ _
  have HM1 := Lib.hid (hm.keeps (Keeps.of_below A1.out))
  have HA1 := Lib.hid (hla.keeps (Keeps.of_below A1.out))
  have hB1 : B ≤ (w.alloc (.cells #[.int .i64 1, .string t, .slice no ns.length nc, .slice ao a.length ac] 28)).heap.size := by simp; omega
  have hgb : w.heap.size ≠ b := by have := hW.lt; omega
  have hg1 : w.heap.size < (w.alloc (.cells #[.int .i64 1, .string t, .slice no ns.length nc, .slice ao a.length ac] 28)).heap.size := by simp
  have HL := Lib.hid hlen
  have IH := Lib.hid ih
  clear hm hla hlen ih hW HW
  go_enter Try.func42, Try.ntmps42
  go_upto_region 1 with fail
  generalize w.alloc (.cells #[.int .i64 1, .string t, .slice no ns.length nc, .slice ao a.length ac] 28) = W1 at A1 HW1 HF1 HE1 HM1 HA1 hB1 hg1 ⊢
  obtain ⟨gs, hgs⟩ : ∃ gs, gs = w.heap.size := ⟨_, rfl⟩
  rw [← hgs] at HE1 hgb hg1
  simp only [← hgs]
  clear hgs A1
  obtain ⟨c0, c1, c2, c3⟩ := EB.cell _ _ _ _ _ _ HE1.out
  have P5 := Lib.hid (put_any B b l0 [t] _ _ _ (NAt.lits W1 [t]) (HW1.out.alloc _) (by have h1 := HL.out; have h2 := Lib.size_eq t; simp [cat] at h1 ⊢; omega) (by simp) (by simp; omega))
  have F5 := Lib.hid (HF1.out.alloc hB1 (.cells (tcells [t]) 9))
  go_wp2_with fail
  refine P5.out.mono ?_
  rintro e w5 ⟨rfl, hW5, hF5⟩
  have HW5 := Lib.hid hW5
  have HF5 := Lib.hid (F5.out.trans hF5)
  clear hW5 hF5
  go_wp2_with fail
  go_end0
  exact ⟨rfl, by simpa [cat] using HW5.out, HF5.out⟩
set_option maxHeartbeats 8000000 in
set_option maxRecDepth 100000 in
theorem term2 (t : ByteArray) (ns : List ByteArray) (a : List Et) (ih : ∀ e ∈ a, TC e) (hl : a.length ≤ 100000) (hnl : ns.length ≤ 100) : TC (.mk 2 t ns a) := by
  intro B b l0 S cs w hat hW hlen hBw
  have HW := hW
  rw [wr_mk] at hlen ⊢
  rw [if_neg (show ¬ (2 : Int) = 3 by decide)] at hlen ⊢
  rw [if_neg (show ¬ (2 : Int) = 4 by decide)] at hlen ⊢
  rw [if_neg (show ¬ (2 : Int) = 6 by decide)] at hlen ⊢
  rw [if_neg (show ¬ (2 : Int) = 7 by decide)] at hlen ⊢
  rw [if_neg (show ¬ (2 : Int) = 8 by decide)] at hlen ⊢
  rw [if_neg (show ¬ (2 : Int) = 9 by decide)] at hlen ⊢
  rw [if_neg (show ¬ (2 : Int) = 10 by decide)] at hlen ⊢
  rw [EAt_mk] at hat
  obtain ⟨nv, av, rfl, hm, hla⟩ := hat
  have o1 := hm.one
  have o2 := hla.one
  obtain ⟨no, nc, rfl⟩ := hm.form
  obtain ⟨ao, ac, rfl⟩ := hla.form
  have A1 := Lib.hid ((Below.refl w.heap.size w).alloc (Nat.le_refl _) (.cells #[.int .i64 2, .string t, .slice no ns.length nc, .slice ao a.length ac] 28))
  have HW1 := Lib.hid (hW.alloc (.cells #[.int .i64 2, .string t, .slice no ns.length nc, .slice ao a.length ac] 28))
  have HF1 := Lib.hid ((Fr.refl B b w).alloc hBw (.cells #[.int .i64 2, .string t, .slice no ns.length nc, .slice ao a.length ac] 28))
  have HE1 : Hid (EB (w.alloc (.cells #[.int .i64 2, .string t, .slice no ns.length nc, .slice ao a.length ac] 28)) w.heap.size 2 t (.slice no ns.length nc) (.slice ao a.length ac)) := alloc_at _ _
  have HM1 := Lib.hid (hm.keeps (Keeps.of_below A1.out))
  have HA1 := Lib.hid (hla.keeps (Keeps.of_below A1.out))
  have hB1 : B ≤ (w.alloc (.cells #[.int .i64 2, .string t, .slice no ns.length nc, .slice ao a.length ac] 28)).heap.size := by simp; omega
  have hgb : w.heap.size ≠ b := by have := hW.lt; omega
  have hg1 : w.heap.size < (w.alloc (.cells #[.int .i64 2, .string t, .slice no ns.length nc, .slice ao a.length ac] 28)).heap.size := by simp
  have HL := Lib.hid hlen
  have IH := Lib.hid ih
  clear hm hla hlen ih hW HW
  go_enter Try.func42, Try.ntmps42
  go_upto_region 1 with fail
  generalize w.alloc (.cells #[.int .i64 2, .string t, .slice no ns.length nc, .slice ao a.length ac] 28) = W1 at A1 HW1 HF1 HE1 HM1 HA1 hB1 hg1 ⊢
  obtain ⟨gs, hgs⟩ : ∃ gs, gs = w.heap.size := ⟨_, rfl⟩
  rw [← hgs] at HE1 hgb hg1
  simp only [← hgs]
  clear hgs A1
  obtain ⟨c0, c1, c2, c3⟩ := EB.cell _ _ _ _ _ _ HE1.out
  have P5 := Lib.hid (put_any B b l0 [t] _ _ _ (NAt.lits W1 [t]) (HW1.out.alloc _) (by have h1 := HL.out; have h2 := Lib.size_eq t; simp [cat] at h1 ⊢; omega) (by simp) (by simp; omega))
  have F5 := Lib.hid (HF1.out.alloc hB1 (.cells (tcells [t]) 9))
  go_wp2_with fail
  refine P5.out.mono ?_
  rintro e w5 ⟨rfl, hW5, hF5⟩
  have HW5 := Lib.hid hW5
  have HF5 := Lib.hid (F5.out.trans hF5)
  clear hW5 hF5
  go_wp2_with fail
  go_end0
  exact ⟨rfl, by simpa [cat] using HW5.out, HF5.out⟩
set_option maxHeartbeats 8000000 in
set_option maxRecDepth 100000 in
theorem term5 (t : ByteArray) (ns : List ByteArray) (a : List Et) (ih : ∀ e ∈ a, TC e) (hl : a.length ≤ 100000) (hnl : ns.length ≤ 100) : TC (.mk 5 t ns a) := by
  intro B b l0 S cs w hat hW hlen hBw
  have HW := hW
  rw [wr_mk] at hlen ⊢
  rw [if_neg (show ¬ (5 : Int) = 3 by decide)] at hlen ⊢
  rw [if_neg (show ¬ (5 : Int) = 4 by decide)] at hlen ⊢
  rw [if_neg (show ¬ (5 : Int) = 6 by decide)] at hlen ⊢
  rw [if_neg (show ¬ (5 : Int) = 7 by decide)] at hlen ⊢
  rw [if_neg (show ¬ (5 : Int) = 8 by decide)] at hlen ⊢
  rw [if_neg (show ¬ (5 : Int) = 9 by decide)] at hlen ⊢
  rw [if_neg (show ¬ (5 : Int) = 10 by decide)] at hlen ⊢
  rw [EAt_mk] at hat
  obtain ⟨nv, av, rfl, hm, hla⟩ := hat
  have o1 := hm.one
  have o2 := hla.one
  obtain ⟨no, nc, rfl⟩ := hm.form
  obtain ⟨ao, ac, rfl⟩ := hla.form
  have A1 := Lib.hid ((Below.refl w.heap.size w).alloc (Nat.le_refl _) (.cells #[.int .i64 5, .string t, .slice no ns.length nc, .slice ao a.length ac] 28))
  have HW1 := Lib.hid (hW.alloc (.cells #[.int .i64 5, .string t, .slice no ns.length nc, .slice ao a.length ac] 28))
  have HF1 := Lib.hid ((Fr.refl B b w).alloc hBw (.cells #[.int .i64 5, .string t, .slice no ns.length nc, .slice ao a.length ac] 28))
  have HE1 : Hid (EB (w.alloc (.cells #[.int .i64 5, .string t, .slice no ns.length nc, .slice ao a.length ac] 28)) w.heap.size 5 t (.slice no ns.length nc) (.slice ao a.length ac)) := alloc_at _ _
  have HM1 := Lib.hid (hm.keeps (Keeps.of_below A1.out))
  have HA1 := Lib.hid (hla.keeps (Keeps.of_below A1.out))
  have hB1 : B ≤ (w.alloc (.cells #[.int .i64 5, .string t, .slice no ns.length nc, .slice ao a.length ac] 28)).heap.size := by simp; omega
  have hgb : w.heap.size ≠ b := by have := hW.lt; omega
  have hg1 : w.heap.size < (w.alloc (.cells #[.int .i64 5, .string t, .slice no ns.length nc, .slice ao a.length ac] 28)).heap.size := by simp
  have HL := Lib.hid hlen
  have IH := Lib.hid ih
  clear hm hla hlen ih hW HW
  go_enter Try.func42, Try.ntmps42
  go_upto_region 1 with fail
  generalize w.alloc (.cells #[.int .i64 5, .string t, .slice no ns.length nc, .slice ao a.length ac] 28) = W1 at A1 HW1 HF1 HE1 HM1 HA1 hB1 hg1 ⊢
  obtain ⟨gs, hgs⟩ : ∃ gs, gs = w.heap.size := ⟨_, rfl⟩
  rw [← hgs] at HE1 hgb hg1
  simp only [← hgs]
  clear hgs A1
  obtain ⟨c0, c1, c2, c3⟩ := EB.cell _ _ _ _ _ _ HE1.out
  have P5 := Lib.hid (put_any B b l0 [t] _ _ _ (NAt.lits W1 [t]) (HW1.out.alloc _) (by have h1 := HL.out; have h2 := Lib.size_eq t; simp [cat] at h1 ⊢; omega) (by simp) (by simp; omega))
  have F5 := Lib.hid (HF1.out.alloc hB1 (.cells (tcells [t]) 9))
  go_wp2_with fail
  refine P5.out.mono ?_
  rintro e w5 ⟨rfl, hW5, hF5⟩
  have HW5 := Lib.hid hW5
  have HF5 := Lib.hid (F5.out.trans hF5)
  clear hW5 hF5
  go_wp2_with fail
  go_end0
  exact ⟨rfl, by simpa [cat] using HW5.out, HF5.out⟩
set_option maxHeartbeats 8000000 in
set_option maxRecDepth 100000 in
theorem term3 (t : ByteArray) (ns : List ByteArray) (a : List Et) (ih : ∀ e ∈ a, TC e) (hl : a.length ≤ 100000) (hnl : ns.length ≤ 100) : TC (.mk 3 t ns a) := by
  intro B b l0 S cs w hat hW hlen hBw
  have HW := hW
  rw [wr_mk] at hlen ⊢
  rw [if_pos rfl] at hlen ⊢
  rw [EAt_mk] at hat
  obtain ⟨nv, av, rfl, hm, hla⟩ := hat
  have o1 := hm.one
  have o2 := hla.one
  obtain ⟨no, nc, rfl⟩ := hm.form
  obtain ⟨ao, ac, rfl⟩ := hla.form
  have A1 := Lib.hid ((Below.refl w.heap.size w).alloc (Nat.le_refl _) (.cells #[.int .i64 3, .string t, .slice no ns.length nc, .slice ao a.length ac] 28))
  have HW1 := Lib.hid (hW.alloc (.cells #[.int .i64 3, .string t, .slice no ns.length nc, .slice ao a.length ac] 28))
  have HF1 := Lib.hid ((Fr.refl B b w).alloc hBw (.cells #[.int .i64 3, .string t, .slice no ns.length nc, .slice ao a.length ac] 28))
  have HE1 : Hid (EB (w.alloc (.cells #[.int .i64 3, .string t, .slice no ns.length nc, .slice ao a.length ac] 28)) w.heap.size 3 t (.slice no ns.length nc) (.slice ao a.length ac)) := alloc_at _ _
  have HM1 := Lib.hid (hm.keeps (Keeps.of_below A1.out))
  have HA1 := Lib.hid (hla.keeps (Keeps.of_below A1.out))
  have hB1 : B ≤ (w.alloc (.cells #[.int .i64 3, .string t, .slice no ns.length nc, .slice ao a.length ac] 28)).heap.size := by simp; omega
  have hgb : w.heap.size ≠ b := by have := hW.lt; omega
  have hg1 : w.heap.size < (w.alloc (.cells #[.int .i64 3, .string t, .slice no ns.length nc, .slice ao a.length ac] 28)).heap.size := by simp
  have HL := Lib.hid hlen
  have IH := Lib.hid ih
  clear hm hla hlen ih hW HW
  go_enter Try.func42, Try.ntmps42
  go_upto_region 1 with fail
  generalize w.alloc (.cells #[.int .i64 3, .string t, .slice no ns.length nc, .slice ao a.length ac] 28) = W1 at A1 HW1 HF1 HE1 HM1 HA1 hB1 hg1 ⊢
  obtain ⟨gs, hgs⟩ : ∃ gs, gs = w.heap.size := ⟨_, rfl⟩
  rw [← hgs] at HE1 hgb hg1
  simp only [← hgs]
  clear hgs A1
  obtain ⟨c0, c1, c2, c3⟩ := EB.cell _ _ _ _ _ _ HE1.out
  have P5 := Lib.hid (put_any B b l0 [⟨#[40, 41]⟩] _ _ _ (NAt.lits W1 [⟨#[40, 41]⟩]) (HW1.out.alloc _) (by have h1 := HL.out; have h2 := Lib.size_eq t; simp [cat] at h1 ⊢; omega) (by simp) (by simp; omega))
  have F5 := Lib.hid (HF1.out.alloc hB1 (.cells (tcells [⟨#[40, 41]⟩]) 9))
  go_wp2_with fail
  refine P5.out.mono ?_
  rintro e w5 ⟨rfl, hW5, hF5⟩
  have HW5 := Lib.hid hW5
  have HF5 := Lib.hid (F5.out.trans hF5)
  clear hW5 hF5
  go_wp2_with fail
  go_end0
  exact ⟨rfl, by simpa [cat] using HW5.out, HF5.out⟩
set_option maxHeartbeats 8000000 in
set_option maxRecDepth 100000 in
theorem term4 (t : ByteArray) (ns : List ByteArray) (a : List Et) (ih : ∀ e ∈ a, TC e) (hl : a.length ≤ 100000) (hnl : ns.length ≤ 100) : TC (.mk 4 t ns a) := by
  intro B b l0 S cs w hat hW hlen hBw
  have HW := hW
  rw [wr_mk] at hlen ⊢
  rw [if_neg (show ¬ (4 : Int) = 3 by decide)] at hlen ⊢
  rw [if_pos rfl] at hlen ⊢
  rw [EAt_mk] at hat
  obtain ⟨nv, av, rfl, hm, hla⟩ := hat
  have o1 := hm.one
  have o2 := hla.one
  obtain ⟨no, nc, rfl⟩ := hm.form
  obtain ⟨ao, ac, rfl⟩ := hla.form
  have A1 := Lib.hid ((Below.refl w.heap.size w).alloc (Nat.le_refl _) (.cells #[.int .i64 4, .string t, .slice no ns.length nc, .slice ao a.length ac] 28))
  have HW1 := Lib.hid (hW.alloc (.cells #[.int .i64 4, .string t, .slice no ns.length nc, .slice ao a.length ac] 28))
  have HF1 := Lib.hid ((Fr.refl B b w).alloc hBw (.cells #[.int .i64 4, .string t, .slice no ns.length nc, .slice ao a.length ac] 28))
  have HE1 : Hid (EB (w.alloc (.cells #[.int .i64 4, .string t, .slice no ns.length nc, .slice ao a.length ac] 28)) w.heap.size 4 t (.slice no ns.length nc) (.slice ao a.length ac)) := alloc_at _ _
  have HM1 := Lib.hid (hm.keeps (Keeps.of_below A1.out))
  have HA1 := Lib.hid (hla.keeps (Keeps.of_below A1.out))
  have hB1 : B ≤ (w.alloc (.cells #[.int .i64 4, .string t, .slice no ns.length nc, .slice ao a.length ac] 28)).heap.size := by simp; omega
  have hgb : w.heap.size ≠ b := by have := hW.lt; omega
  have hg1 : w.heap.size < (w.alloc (.cells #[.int .i64 4, .string t, .slice no ns.length nc, .slice ao a.length ac] 28)).heap.size := by simp
  have HL := Lib.hid hlen
  have IH := Lib.hid ih
  clear hm hla hlen ih hW HW
  go_enter Try.func42, Try.ntmps42
  go_upto_region 1 with fail
  generalize w.alloc (.cells #[.int .i64 4, .string t, .slice no ns.length nc, .slice ao a.length ac] 28) = W1 at A1 HW1 HF1 HE1 HM1 HA1 hB1 hg1 ⊢
  obtain ⟨gs, hgs⟩ : ∃ gs, gs = w.heap.size := ⟨_, rfl⟩
  rw [← hgs] at HE1 hgb hg1
  simp only [← hgs]
  clear hgs A1
  obtain ⟨c0, c1, c2, c3⟩ := EB.cell _ _ _ _ _ _ HE1.out
  have P5 := Lib.hid (put_any B b l0 [⟨#[39]⟩, t] _ _ _ (NAt.lits W1 [⟨#[39]⟩, t]) (HW1.out.alloc _) (by have h1 := HL.out; have h2 := Lib.size_eq t; simp [cat] at h1 ⊢; omega) (by simp) (by simp; omega))
  have F5 := Lib.hid (HF1.out.alloc hB1 (.cells (tcells [⟨#[39]⟩, t]) 9))
  go_wp2_with fail
  refine P5.out.mono ?_
  rintro e w5 ⟨rfl, hW5, hF5⟩
  have HW5 := Lib.hid hW5
  have HF5 := Lib.hid (F5.out.trans hF5)
  clear hW5 hF5
  go_wp2_with fail
  go_end0
  exact ⟨rfl, by simpa [cat] using HW5.out, HF5.out⟩
set_option maxHeartbeats 8000000 in
set_option maxRecDepth 100000 in
theorem term7 (t : ByteArray) (ns : List ByteArray) (a : List Et) (ih : ∀ e ∈ a, TC e) (hl : a.length ≤ 100000) (hnl : ns.length ≤ 100) : TC (.mk 7 t ns a) := by
  intro B b l0 S cs w hat hW hlen hBw
  have HW := hW
  rw [wr_mk] at hlen ⊢
  rw [if_neg (show ¬ (7 : Int) = 3 by decide)] at hlen ⊢
  rw [if_neg (show ¬ (7 : Int) = 4 by decide)] at hlen ⊢
  rw [if_neg (show ¬ (7 : Int) = 6 by decide)] at hlen ⊢
  rw [if_pos rfl] at hlen ⊢
  rw [EAt_mk] at hat
  obtain ⟨nv, av, rfl, hm, hla⟩ := hat
  have o1 := hm.one
  have o2 := hla.one
  obtain ⟨no, nc, rfl⟩ := hm.form
  obtain ⟨ao, ac, rfl⟩ := hla.form
  have A1 := Lib.hid ((Below.refl w.heap.size w).alloc (Nat.le_refl _) (.cells #[.int .i64 7, .string t, .slice no ns.length nc, .slice ao a.length ac] 28))
  have HW1 := Lib.hid (hW.alloc (.cells #[.int .i64 7, .string t, .slice no ns.length nc, .slice ao a.length ac] 28))
  have HF1 := Lib.hid ((Fr.refl B b w).alloc hBw (.cells #[.int .i64 7, .string t, .slice no ns.length nc, .slice ao a.length ac] 28))
  have HE1 : Hid (EB (w.alloc (.cells #[.int .i64 7, .string t, .slice no ns.length nc, .slice ao a.length ac] 28)) w.heap.size 7 t (.slice no ns.length nc) (.slice ao a.length ac)) := alloc_at _ _
  have HM1 := Lib.hid (hm.keeps (Keeps.of_below A1.out))
  have HA1 := Lib.hid (hla.keeps (Keeps.of_below A1.out))
  have hB1 : B ≤ (w.alloc (.cells #[.int .i64 7, .string t, .slice no ns.length nc, .slice ao a.length ac] 28)).heap.size := by simp; omega
  have hgb : w.heap.size ≠ b := by have := hW.lt; omega
  have hg1 : w.heap.size < (w.alloc (.cells #[.int .i64 7, .string t, .slice no ns.length nc, .slice ao a.length ac] 28)).heap.size := by simp
  have HL := Lib.hid hlen
  have IH := Lib.hid ih
  clear hm hla hlen ih hW HW
  go_enter Try.func42, Try.ntmps42
  go_upto_region 1 with fail
  generalize w.alloc (.cells #[.int .i64 7, .string t, .slice no ns.length nc, .slice ao a.length ac] 28) = W1 at A1 HW1 HF1 HE1 HM1 HA1 hB1 hg1 ⊢
  obtain ⟨gs, hgs⟩ : ∃ gs, gs = w.heap.size := ⟨_, rfl⟩
  rw [← hgs] at HE1 hgb hg1
  simp only [← hgs]
  clear hgs A1
  obtain ⟨c0, c1, c2, c3⟩ := EB.cell _ _ _ _ _ _ HE1.out
  have he : (⟨#[]⟩ : ByteArray).toList.isEmpty = true := (by simp [Lib.toList_data])
  have hfm : fmt (⟨#[]⟩ : ByteArray) a = 40 :: (⟨#[]⟩ : ByteArray).data.toList ++ Et.wrs false a ++ [41] := by unfold fmt; rw [he]; rfl
  have P5 := Lib.hid (form_any a IH.out B b l0 (⟨#[]⟩ : ByteArray) S (.slice ao a.length ac) W1 HA1.out HW1.out (by have h1 := HL.out; rw [hfm]; simp at h1 ⊢; omega) hB1 hl)
  rw [hfm] at P5
  clear hfm he
  go_wp2_with fail
  refine P5.out.mono ?_
  rintro e w5 ⟨rfl, hW5, hF5⟩
  have HW5 := Lib.hid hW5
  have HF5 := Lib.hid (HF1.out.trans hF5)
  clear hW5 hF5
  go_wp2_with fail
  go_end0
  exact ⟨rfl, by simpa using HW5.out, HF5.out⟩
set_option maxHeartbeats 8000000 in
set_option maxRecDepth 100000 in
theorem term8 (t : ByteArray) (ns : List ByteArray) (a : List Et) (ih : ∀ e ∈ a, TC e) (hl : a.length ≤ 100000) (hnl : ns.length ≤ 100) : TC (.mk 8 t ns a) := by
  intro B b l0 S cs w hat hW hlen hBw
  have HW := hW
  rw [wr_mk] at hlen ⊢
  rw [if_neg (show ¬ (8 : Int) = 3 by decide)] at hlen ⊢
  rw [if_neg (show ¬ (8 : Int) = 4 by decide)] at hlen ⊢
  rw [if_neg (show ¬ (8 : Int) = 6 by decide)] at hlen ⊢
  rw [if_neg (show ¬ (8 : Int) = 7 by decide)] at hlen ⊢
  rw [if_pos rfl] at hlen ⊢
  rw [EAt_mk] at hat
  obtain ⟨nv, av, rfl, hm, hla⟩ := hat
  have o1 := hm.one
  have o2 := hla.one
  obtain ⟨no, nc, rfl⟩ := hm.form
  obtain ⟨ao, ac, rfl⟩ := hla.form
  have A1 := Lib.hid ((Below.refl w.heap.size w).alloc (Nat.le_refl _) (.cells #[.int .i64 8, .string t, .slice no ns.length nc, .slice ao a.length ac] 28))
  have HW1 := Lib.hid (hW.alloc (.cells #[.int .i64 8, .string t, .slice no ns.length nc, .slice ao a.length ac] 28))
  have HF1 := Lib.hid ((Fr.refl B b w).alloc hBw (.cells #[.int .i64 8, .string t, .slice no ns.length nc, .slice ao a.length ac] 28))
  have HE1 : Hid (EB (w.alloc (.cells #[.int .i64 8, .string t, .slice no ns.length nc, .slice ao a.length ac] 28)) w.heap.size 8 t (.slice no ns.length nc) (.slice ao a.length ac)) := alloc_at _ _
  have HM1 := Lib.hid (hm.keeps (Keeps.of_below A1.out))
  have HA1 := Lib.hid (hla.keeps (Keeps.of_below A1.out))
  have hB1 : B ≤ (w.alloc (.cells #[.int .i64 8, .string t, .slice no ns.length nc, .slice ao a.length ac] 28)).heap.size := by simp; omega
  have hgb : w.heap.size ≠ b := by have := hW.lt; omega
  have hg1 : w.heap.size < (w.alloc (.cells #[.int .i64 8, .string t, .slice no ns.length nc, .slice ao a.length ac] 28)).heap.size := by simp
  have HL := Lib.hid hlen
  have IH := Lib.hid ih
  clear hm hla hlen ih hW HW
  go_enter Try.func42, Try.ntmps42
  go_upto_region 1 with fail
  generalize w.alloc (.cells #[.int .i64 8, .string t, .slice no ns.length nc, .slice ao a.length ac] 28) = W1 at A1 HW1 HF1 HE1 HM1 HA1 hB1 hg1 ⊢
  obtain ⟨gs, hgs⟩ : ∃ gs, gs = w.heap.size := ⟨_, rfl⟩
  rw [← hgs] at HE1 hgb hg1
  simp only [← hgs]
  clear hgs A1
  obtain ⟨c0, c1, c2, c3⟩ := EB.cell _ _ _ _ _ _ HE1.out
  have he : (⟨#[105, 102]⟩ : ByteArray).toList.isEmpty = false := (by simp [Lib.toList_data])
  have hfm : fmt (⟨#[105, 102]⟩ : ByteArray) a = 40 :: (⟨#[105, 102]⟩ : ByteArray).data.toList ++ Et.wrs true a ++ [41] := by unfold fmt; rw [he]; rfl
  have P5 := Lib.hid (form_any a IH.out B b l0 (⟨#[105, 102]⟩ : ByteArray) S (.slice ao a.length ac) W1 HA1.out HW1.out (by have h1 := HL.out; rw [hfm]; simp at h1 ⊢; omega) hB1 hl)
  rw [hfm] at P5
  clear hfm he
  go_wp2_with fail
  refine P5.out.mono ?_
  rintro e w5 ⟨rfl, hW5, hF5⟩
  have HW5 := Lib.hid hW5
  have HF5 := Lib.hid (HF1.out.trans hF5)
  clear hW5 hF5
  go_wp2_with fail
  go_end0
  exact ⟨rfl, by simpa using HW5.out, HF5.out⟩
set_option maxHeartbeats 8000000 in
set_option maxRecDepth 100000 in
theorem term10 (t : ByteArray) (ns : List ByteArray) (a : List Et) (ih : ∀ e ∈ a, TC e) (hl : a.length ≤ 100000) (hnl : ns.length ≤ 100) (hte : t.toList.isEmpty = false) : TC (.mk 10 t ns a) := by
  intro B b l0 S cs w hat hW hlen hBw
  have HW := hW
  rw [wr_mk] at hlen ⊢
  rw [if_neg (show ¬ (10 : Int) = 3 by decide)] at hlen ⊢
  rw [if_neg (show ¬ (10 : Int) = 4 by decide)] at hlen ⊢
  rw [if_neg (show ¬ (10 : Int) = 6 by decide)] at hlen ⊢
  rw [if_neg (show ¬ (10 : Int) = 7 by decide)] at hlen ⊢
  rw [if_neg (show ¬ (10 : Int) = 8 by decide)] at hlen ⊢
  rw [if_neg (show ¬ (10 : Int) = 9 by decide)] at hlen ⊢
  rw [if_pos rfl] at hlen ⊢
  rw [EAt_mk] at hat
  obtain ⟨nv, av, rfl, hm, hla⟩ := hat
  have o1 := hm.one
  have o2 := hla.one
  obtain ⟨no, nc, rfl⟩ := hm.form
  obtain ⟨ao, ac, rfl⟩ := hla.form
  have A1 := Lib.hid ((Below.refl w.heap.size w).alloc (Nat.le_refl _) (.cells #[.int .i64 10, .string t, .slice no ns.length nc, .slice ao a.length ac] 28))
  have HW1 := Lib.hid (hW.alloc (.cells #[.int .i64 10, .string t, .slice no ns.length nc, .slice ao a.length ac] 28))
  have HF1 := Lib.hid ((Fr.refl B b w).alloc hBw (.cells #[.int .i64 10, .string t, .slice no ns.length nc, .slice ao a.length ac] 28))
  have HE1 : Hid (EB (w.alloc (.cells #[.int .i64 10, .string t, .slice no ns.length nc, .slice ao a.length ac] 28)) w.heap.size 10 t (.slice no ns.length nc) (.slice ao a.length ac)) := alloc_at _ _
  have HM1 := Lib.hid (hm.keeps (Keeps.of_below A1.out))
  have HA1 := Lib.hid (hla.keeps (Keeps.of_below A1.out))
  have hB1 : B ≤ (w.alloc (.cells #[.int .i64 10, .string t, .slice no ns.length nc, .slice ao a.length ac] 28)).heap.size := by simp; omega
  have hgb : w.heap.size ≠ b := by have := hW.lt; omega
  have hg1 : w.heap.size < (w.alloc (.cells #[.int .i64 10, .string t, .slice no ns.length nc, .slice ao a.length ac] 28)).heap.size := by simp
  have HL := Lib.hid hlen
  have IH := Lib.hid ih
  clear hm hla hlen ih hW HW
  go_enter Try.func42, Try.ntmps42
  go_upto_region 1 with fail
  generalize w.alloc (.cells #[.int .i64 10, .string t, .slice no ns.length nc, .slice ao a.length ac] 28) = W1 at A1 HW1 HF1 HE1 HM1 HA1 hB1 hg1 ⊢
  obtain ⟨gs, hgs⟩ : ∃ gs, gs = w.heap.size := ⟨_, rfl⟩
  rw [← hgs] at HE1 hgb hg1
  simp only [← hgs]
  clear hgs A1
  obtain ⟨c0, c1, c2, c3⟩ := EB.cell _ _ _ _ _ _ HE1.out
  have he : t.toList.isEmpty = false := hte
  have hfm : fmt t a = 40 :: t.data.toList ++ Et.wrs true a ++ [41] := by unfold fmt; rw [he]; rfl
  have P5 := Lib.hid (form_any a IH.out B b l0 t S (.slice ao a.length ac) W1 HA1.out HW1.out (by have h1 := HL.out; rw [hfm]; simp at h1 ⊢; omega) hB1 hl)
  rw [hfm] at P5
  clear hfm he
  go_wp2_with fail
  refine P5.out.mono ?_
  rintro e w5 ⟨rfl, hW5, hF5⟩
  have HW5 := Lib.hid hW5
  have HF5 := Lib.hid (HF1.out.trans hF5)
  clear hW5 hF5
  go_wp2_with fail
  go_end0
  exact ⟨rfl, by simpa using HW5.out, HF5.out⟩
set_option maxHeartbeats 8000000 in
set_option maxRecDepth 100000 in
theorem term9 (t : ByteArray) (ns : List ByteArray) (a : List Et) (ih : ∀ e ∈ a, TC e) (hl : a.length ≤ 100000) (hnl : ns.length ≤ 100) (hll : a.length = ns.length + 1) (hne : ∀ s ∈ ns, s.toList.isEmpty = false) : TC (.mk 9 t ns a) := by
  intro B b l0 S cs w hat hW hlen hBw
  have HW := hW
  rw [wr_mk] at hlen ⊢
  rw [if_neg (show ¬ (9 : Int) = 3 by decide)] at hlen ⊢
  rw [if_neg (show ¬ (9 : Int) = 4 by decide)] at hlen ⊢
  rw [if_neg (show ¬ (9 : Int) = 6 by decide)] at hlen ⊢
  rw [if_neg (show ¬ (9 : Int) = 7 by decide)] at hlen ⊢
  rw [if_neg (show ¬ (9 : Int) = 8 by decide)] at hlen ⊢
  rw [if_pos rfl] at hlen ⊢
  have HLL := Lib.hid hll
  have HNE := Lib.hid hne
  clear hll hne
  rw [EAt_mk] at hat
  obtain ⟨nv, av, rfl, hm, hla⟩ := hat
  have o1 := hm.one
  have o2 := hla.one
  obtain ⟨no, nc, rfl⟩ := hm.form
  obtain ⟨ao, ac, rfl⟩ := hla.form
  have A1 := Lib.hid ((Below.refl w.heap.size w).alloc (Nat.le_refl _) (.cells #[.int .i64 9, .string t, .slice no ns.length nc, .slice ao a.length ac] 28))
  have HW1 := Lib.hid (hW.alloc (.cells #[.int .i64 9, .string t, .slice no ns.length nc, .slice ao a.length ac] 28))
  have HF1 := Lib.hid ((Fr.refl B b w).alloc hBw (.cells #[.int .i64 9, .string t, .slice no ns.length nc, .slice ao a.length ac] 28))
  have HE1 : Hid (EB (w.alloc (.cells #[.int .i64 9, .string t, .slice no ns.length nc, .slice ao a.length ac] 28)) w.heap.size 9 t (.slice no ns.length nc) (.slice ao a.length ac)) := alloc_at _ _
  have HM1 := Lib.hid (hm.keeps (Keeps.of_below A1.out))
  have HA1 := Lib.hid (hla.keeps (Keeps.of_below A1.out))
  have hB1 : B ≤ (w.alloc (.cells #[.int .i64 9, .string t, .slice no ns.length nc, .slice ao a.length ac] 28)).heap.size := by simp; omega
  have hgb : w.heap.size ≠ b := by have := hW.lt; omega
  have hg1 : w.heap.size < (w.alloc (.cells #[.int .i64 9, .string t, .slice no ns.length nc, .slice ao a.length ac] 28)).heap.size := by simp
  have HL := Lib.hid hlen
  have IH := Lib.hid ih
  clear hm hla hlen ih hW HW
  go_enter Try.func42, Try.ntmps42
  go_upto_region 1 with fail
  generalize w.alloc (.cells #[.int .i64 9, .string t, .slice no ns.length nc, .slice ao a.length ac] 28) = W1 at A1 HW1 HF1 HE1 HM1 HA1 hB1 hg1 ⊢
  obtain ⟨gs, hgs⟩ : ∃ gs, gs = w.heap.size := ⟨_, rfl⟩
  rw [← hgs] at HE1 hgb hg1
  simp only [← hgs]
  clear hgs A1
  obtain ⟨c0, c1, c2, c3⟩ := EB.cell _ _ _ _ _ _ HE1.out
  have P5 := Lib.hid (let_any ns a IH.out HLL.out HNE.out B b l0 S (.slice no ns.length nc) (.slice ao a.length ac) W1 HM1.out HA1.out HW1.out (by have h1 := HL.out; unfold ltx; simp at h1 ⊢; omega) hB1 hl)
  unfold ltx at P5
  go_wp2_with fail
  refine P5.out.mono ?_
  rintro e w5 ⟨rfl, hW5, hF5⟩
  have HW5 := Lib.hid hW5
  have HF5 := Lib.hid (HF1.out.trans hF5)
  clear hW5 hF5
  go_wp2_with fail
  go_end0
  exact ⟨rfl, by simpa using HW5.out, HF5.out⟩
set_option maxHeartbeats 8000000 in
set_option maxRecDepth 100000 in
theorem term6 (t : ByteArray) (ns : List ByteArray) (a : List Et) (ih : ∀ e ∈ a, TC e) (hl : a.length ≤ 100000) (hnl : ns.length ≤ 100) : TC (.mk 6 t ns a) := by
  intro B b l0 S cs w hat hW hlen hBw
  have HW := hW
  rw [wr_mk] at hlen ⊢
  rw [if_neg (show ¬ (6 : Int) = 3 by decide)] at hlen ⊢
  rw [if_neg (show ¬ (6 : Int) = 4 by decide)] at hlen ⊢
  rw [if_pos rfl] at hlen ⊢
  have hjl : (jn ns).length ≤ 1000000000 := by simp at hlen; omega
  obtain ⟨hd, hhd⟩ : ∃ hd : ByteArray, hd = ⟨([108, 97, 109, 98, 100, 97, 32, 40] ++ jn ns ++ [41]).toArray⟩ := ⟨_, rfl⟩
  have hdd : hd.data.toList = [108, 97, 109, 98, 100, 97, 32, 40] ++ jn ns ++ [41] := by rw [hhd]
  have he : hd.toList.isEmpty = false := by rw [Lib.toList_data, hdd]; rfl
  have hfm : fmt hd a = 40 :: ([108, 97, 109, 98, 100, 97, 32, 40] ++ jn ns ++ [41]) ++ Et.wrs true a ++ [41] := by unfold fmt; rw [he, hdd]; rfl
  have hcat : (⟨#[108, 97, 109, 98, 100, 97, 32, 40]⟩ ++ ⟨(jn ns).toArray⟩ ++ ⟨#[41]⟩ : ByteArray) = hd := by
    rw [hhd, str_app [108, 97, 109, 98, 100, 97, 32, 40] (jn ns), str_app _ [41]]
  rw [← hfm] at hlen ⊢
  have HCAT := Lib.hid hcat
  clear hfm hdd he hcat hhd
  rw [EAt_mk] at hat
  obtain ⟨nv, av, rfl, hm, hla⟩ := hat
  have o1 := hm.one
  have o2 := hla.one
  obtain ⟨no, nc, rfl⟩ := hm.form
  obtain ⟨ao, ac, rfl⟩ := hla.form
  have A1 := Lib.hid ((Below.refl w.heap.size w).alloc (Nat.le_refl _) (.cells #[.int .i64 6, .string t, .slice no ns.length nc, .slice ao a.length ac] 28))
  have HW1 := Lib.hid (hW.alloc (.cells #[.int .i64 6, .string t, .slice no ns.length nc, .slice ao a.length ac] 28))
  have HF1 := Lib.hid ((Fr.refl B b w).alloc hBw (.cells #[.int .i64 6, .string t, .slice no ns.length nc, .slice ao a.length ac] 28))
  have HE1 : Hid (EB (w.alloc (.cells #[.int .i64 6, .string t, .slice no ns.length nc, .slice ao a.length ac] 28)) w.heap.size 6 t (.slice no ns.length nc) (.slice ao a.length ac)) := alloc_at _ _
  have HM1 := Lib.hid (hm.keeps (Keeps.of_below A1.out))
  have HA1 := Lib.hid (hla.keeps (Keeps.of_below A1.out))
  have hB1 : B ≤ (w.alloc (.cells #[.int .i64 6, .string t, .slice no ns.length nc, .slice ao a.length ac] 28)).heap.size := by simp; omega
  have hgb : w.heap.size ≠ b := by have := hW.lt; omega
  have hg1 : w.heap.size < (w.alloc (.cells #[.int .i64 6, .string t, .slice no ns.length nc, .slice ao a.length ac] 28)).heap.size := by simp
  have HL := Lib.hid hlen
  have IH := Lib.hid ih
  clear hm hla hlen ih hW HW
  go_enter Try.func42, Try.ntmps42
  go_upto_region 1 with fail
  generalize w.alloc (.cells #[.int .i64 6, .string t, .slice no ns.length nc, .slice ao a.length ac] 28) = W1 at A1 HW1 HF1 HE1 HM1 HA1 hB1 hg1 ⊢
  obtain ⟨gs, hgs⟩ : ∃ gs, gs = w.heap.size := ⟨_, rfl⟩
  rw [← hgs] at HE1 hgb hg1
  simp only [← hgs]
  clear hgs A1
  obtain ⟨c0, c1, c2, c3⟩ := EB.cell _ _ _ _ _ _ HE1.out
  have HS0 : Hid (Fr B b W1 W1.drew) := (Fr.refl _ _ _).drew
  have AD := (Below.refl W1.heap.size W1).drew
  have hbd : B ≤ W1.drew.heap.size := hB1
  have HMD := Lib.hid (HM1.out.keeps (Keeps.of_below AD))
  have HAD := Lib.hid (HA1.out.keeps (Keeps.of_below AD))
  have HWD : Hid (Wr B b l0 W1.drew) := HW1.out.drew
  have HJ := Lib.hid (join_any ns S _ W1.drew HMD.out hjl (by omega))
  clear AD
  go_upto_region 11 with fail
  refine wp_region_noPanic ?_
  refine wp_region_held_drew (S := Fr B b W1) (by kernel_rfl) HS0.out (fun hHeld => ?_)
  generalize W1.drew = X at HS0 hbd HMD HAD HWD HJ hHeld ⊢
  refine wpAnyH_take (i := 0) (v := Value.pointer (some ⟨b, 0, none⟩)) rfl (by kernel_rfl) (by kernel_rfl) (by kernel_rfl) (fun _ _ _ h => h) (Or.inl ⟨rfl, fun w' hw' => ?_⟩) hHeld ?_
  · go_simp
  simp only [List.getElem_toArray, List.getElem_cons_succ, List.getElem_cons_zero, Act.put, List.setIfInBounds_toArray, List.set_cons_zero, List.set_cons_succ]
  refine wpAnyH_take (i := 1) (v := Value.pointer (some ⟨gs, 2, none⟩)) rfl (by kernel_rfl) (by kernel_rfl) (by kernel_rfl) (fun _ _ _ h => h) (Or.inl ⟨rfl, fun w' hw' => ?_⟩) hHeld ?_
  · go_simp
  simp only [List.getElem_toArray, List.getElem_cons_succ, List.getElem_cons_zero, Act.put, List.setIfInBounds_toArray, List.set_cons_zero, List.set_cons_succ]
  refine wpAnyH_take (i := 2) (v := Value.slice no ns.length nc) rfl (by kernel_rfl) (by kernel_rfl) (by kernel_rfl) (fun _ _ _ h => h) (Or.inl ⟨rfl, fun w' hw' => ?_⟩) hHeld ?_
  · have q9 := (EB.cell _ _ _ _ _ _ (hw'.keep HE1.out (by decide) hgb)); obtain ⟨d0, d1, d2, d3⟩ := q9; go_simp
  simp only [List.getElem_toArray, List.getElem_cons_succ, List.getElem_cons_zero, Act.put, List.setIfInBounds_toArray, List.set_cons_zero, List.set_cons_succ]
  refine wpAnyH_take (i := 6) (v := Value.pointer (some ⟨gs, 3, none⟩)) rfl (by kernel_rfl) (by kernel_rfl) (by kernel_rfl) (fun _ _ _ h => h) (Or.inl ⟨rfl, fun w' hw' => ?_⟩) hHeld ?_
  · go_simp
  simp only [List.getElem_toArray, List.getElem_cons_succ, List.getElem_cons_zero, Act.put, List.setIfInBounds_toArray, List.set_cons_zero, List.set_cons_succ]
  refine wpAnyH_take (i := 7) (v := Value.slice ao a.length ac) rfl (by kernel_rfl) (by kernel_rfl) (by kernel_rfl) (fun _ _ _ h => h) (Or.inl ⟨rfl, fun w' hw' => ?_⟩) hHeld ?_
  · have q9 := (EB.cell _ _ _ _ _ _ (hw'.keep HE1.out (by decide) hgb)); obtain ⟨d0, d1, d2, d3⟩ := q9; go_simp
  simp only [List.getElem_toArray, List.getElem_cons_succ, List.getElem_cons_zero, Act.put, List.setIfInBounds_toArray, List.set_cons_zero, List.set_cons_succ]
  refine wpAnyH_ready (rs := [3]) (by kernel_rfl) (by simp) ?_
  refine (AllReadyH.cons rfl (fun K hK => ?_) AllReadyH.nil)
  go_simp
  refine HJ.out.mono ?_
  rintro e w5 ⟨rfl, hb5⟩
  have HB5 := Lib.hid hb5
  have hb5B : Below B X w5 := hb5.mono hbd
  have HF5 : Hid (Fr B b X w5) := ⟨hb5B, others_below hb5⟩
  have HS5 := Lib.hid (HS0.out.trans HF5.out)
  have HW5 : Hid (Wr B b l0 w5) := HWD.out.below hb5
  have HP := Lib.hid (form_any a IH.out B b l0 hd S (.slice ao a.length ac) w5 (HAD.out.keeps (Keeps.of_below hb5)) HW5.out HL.out (Nat.le_trans hbd hb5.size) hl)
  clear hb5 hb5B
  refine hK.out _ _ HS5.out (fun hHeld => ?_)
  clear hK K
  try simp only [List.getElem_toArray, List.getElem_cons_succ, List.getElem_cons_zero, Act.put, List.setIfInBounds_toArray, List.set_cons_zero, List.set_cons_succ]
  refine wpAnyH_take (i := 4) (v := Value.string (⟨#[108, 97, 109, 98, 100, 97, 32, 40]⟩ ++ ⟨(jn ns).toArray⟩)) rfl (by kernel_rfl) (by kernel_rfl) (by kernel_rfl) (fun _ _ _ h => h) (Or.inl ⟨rfl, fun w' hw' => ?_⟩) hHeld ?_
  · go_simp; omega
  simp only [List.getElem_toArray, List.getElem_cons_succ, List.getElem_cons_zero, Act.put, List.setIfInBounds_toArray, List.set_cons_zero, List.set_cons_succ]
  refine wpAnyH_take (i := 5) (v := Value.string (⟨#[108, 97, 109, 98, 100, 97, 32, 40]⟩ ++ ⟨(jn ns).toArray⟩ ++ ⟨#[41]⟩)) rfl (by kernel_rfl) (by kernel_rfl) (by kernel_rfl) (fun _ _ _ h => h) (Or.inl ⟨rfl, fun w' hw' => ?_⟩) hHeld ?_
  · go_simp; omega
  simp only [List.getElem_toArray, List.getElem_cons_succ, List.getElem_cons_zero, Act.put, List.setIfInBounds_toArray, List.set_cons_zero, List.set_cons_succ]
  rw [HCAT.out]
  refine wpAnyH_ready (rs := [8]) (by kernel_rfl) (by simp) ?_
  refine (AllReadyH.cons rfl (fun K hK => ?_) AllReadyH.nil)
  go_simp
  refine HP.out.mono ?_
  rintro e w6 ⟨rfl, hW6, hF6⟩
  have HS6 := Lib.hid (HS5.out.trans hF6)
  have HW6 := Lib.hid hW6
  clear hW6 hF6
  refine hK.out _ _ HS6.out (fun hHeld => ?_)
  clear hK K
  try simp only [List.getElem_toArray, List.getElem_cons_succ, List.getElem_cons_zero, Act.put, List.setIfInBounds_toArray, List.set_cons_zero, List.set_cons_succ]
  refine wpAnyH_done (by kernel_rfl) ?_ _
  refine NoPanic.normal ?_
  clear hHeld
  go_wp2_with fail
  go_end0
  exact ⟨rfl, HW6.out, HF1.out.trans HS6.out⟩
end Go.Proofs.Ytpkcoplpfenliaa
/- Text's contract. -/
namespace Go.Proofs.Ytpkcoplpfenliaa
open Go.RowKit Go.BigM
set_option linter.unusedVariables false
set_option linter.unusedSimpArgs false
theorem kind_of_right {k : Int} {t : ByteArray} {ns : List ByteArray} {a : List Et} (h : (Et.mk k t ns a).right num = true) :
    (k = 1 ∨ k = 2 ∨ k = 3 ∨ k = 4 ∨ k = 5 ∨ k = 6 ∨ k = 7 ∨ k = 8 ∨ k = 9 ∨ k = 10) ∧ Et.rights num a = true ∧ (k = 9 → a.length = ns.length + 1 ∧ Once ns) ∧ (k = 10 → 0 < arity t) ∧ (k = 6 → a.length = 1 ∧ Once ns) ∧ (k = 8 → a.length = 3) ∧ (k = 7 → 2 ≤ a.length) ∧ (k = 10 → a.length = arity t) ∧ (k ≠ 6 → k ≠ 9 → ns = []) ∧ (k = 1 ∨ k = 2 ∨ k = 3 ∨ k = 4 ∨ k = 5 → a = []) := by
  rw [right_mk] at h
  simp only [Bool.and_eq_true, shapeB] at h
  obtain ⟨⟨⟨h1, h2⟩, h3⟩, h4⟩ := h
  have hk : k = 1 ∨ k = 2 ∨ k = 3 ∨ k = 4 ∨ k = 5 ∨ k = 6 ∨ k = 7 ∨ k = 8 ∨ k = 9 ∨ k = 10 := by
    unfold textB at h1
    split at h1
    · omega
    · split at h1
      · omega
      · split at h1
        · omega
        · split at h1
          · omega
          · split at h1
            · omega
            · cases h1
  refine ⟨hk, h4, ?_, ?_, ?_, ?_, ?_, ?_, ?_, ?_⟩
  · rintro rfl
    simp [namesB, partsB] at h2 h3
    exact ⟨h3, h2.2⟩
  · rintro rfl
    simpa [textB] using h1
  · rintro rfl
    simp [namesB, partsB] at h2 h3
    exact ⟨h3, h2.2⟩
  · rintro rfl
    simpa [partsB] using h3
  · rintro rfl
    simpa [partsB] using h3
  · rintro rfl
    simpa [partsB] using h3
  · intro h6 h9
    simp [namesB, h6, h9] at h2
    exact h2
  · intro h
    unfold partsB at h3
    rw [if_neg (by omega), if_neg (by omega), if_neg (by omega), if_neg (by omega), if_neg (by omega)] at h3
    simpa using h3
theorem wr_tree (N : Nat) : N ≤ 100000 → ∀ (e : Et), e.size ≤ N → e.right num = true → e.fine → TC e := by
  induction N with
  | zero => intro _ e he; cases e; simp [Et.size] at he
  | succ N IH =>
    intro hN e he hr hf
    obtain ⟨k, t, ns, a⟩ := e
    have hsz : Et.sizes a ≤ N := by simp only [Et.size] at he; omega
    have hl := length_esizes a
    obtain ⟨hk, hra, h9, h10, -, -, -, -, -, -⟩ := kind_of_right hr
    rw [fine_mk] at hf
    obtain ⟨hf1, hf2, hf3, hf4⟩ := hf
    have ih : ∀ e ∈ a, TC e := by
      intro e hm
      obtain ⟨j, hj, rfl⟩ := List.getElem_of_mem hm
      exact IH (by omega) _ (by have := esize_get a j hj; omega) ((rights_all a).1 hra _ hm) (hf4 _ hm)
    have hl5 : a.length ≤ 100000 := by omega
    rcases hk with rfl | rfl | rfl | rfl | rfl | rfl | rfl | rfl | rfl | rfl
    · exact term1 t ns a ih hl5 hf2
    · exact term2 t ns a ih hl5 hf2
    · exact term3 t ns a ih hl5 hf2
    · exact term4 t ns a ih hl5 hf2
    · exact term5 t ns a ih hl5 hf2
    · exact term6 t ns a ih hl5 hf2
    · exact term7 t ns a ih hl5 hf2
    · exact term8 t ns a ih hl5 hf2
    · exact term9 t ns a ih hl5 hf2 (h9 rfl).1 (fun s hs => isEmpty_ne ((h9 rfl).2.1 s hs))
    · refine term10 t ns a ih hl5 hf2 (isEmpty_ne ?_)
      rintro rfl
      have := h10 rfl
      rw [arity_none] at this
      omega
/-- Its length, by its size. -/
theorem jn_le : ∀ (ns : List ByteArray), (∀ s ∈ ns, s.size ≤ 100) → (jn ns).length ≤ 101 * ns.length
  | [], _ => by simp [jn]
  | [s], h => by have := h s (by simp); have h2 := Lib.size_eq s; simp [jn]; omega
  | s :: s2 :: l, h => by
    have h1 := h s (by simp)
    have h2 := Lib.size_eq s
    have h3 := jn_le (s2 :: l) (fun x hx => h x (by simp at hx ⊢; right; exact hx))
    simp only [jn, List.length_append, List.length_cons] at h3 ⊢; omega
mutual
theorem wr_le : ∀ (e : Et), e.fine → e.wr.length + 1 ≤ 30000 * e.size
  | .mk k t ns a, h => by
    have h0 := h
    rw [fine_mk] at h
    obtain ⟨h1, h2, h3, h4⟩ := h
    have h5 := wrs_le a ((fines_all a).2 h4) true
    have h6 := wrs_le a ((fines_all a).2 h4) false
    have h7 := wrbl_le ns a h3 ((fines_all a).2 h4) false
    have h9 := jn_le ns h3
    have h10 := Lib.size_eq t
    rw [wr_mk]
    simp only [Et.size]
    split
    · simp; omega
    · split
      · simp; omega
      · split
        · simp; omega
        · split
          · simp; omega
          · split
            · simp; omega
            · split
              · simp; omega
              · split
                · simp; omega
                · omega
theorem wrs_le : ∀ (l : List Et), Et.fines l → ∀ (b : Bool), (Et.wrs b l).length ≤ 30000 * Et.sizes l
  | [], _, b => by simp [Et.wrs, Et.sizes]
  | e :: l, h, b => by
    have h0 := h
    unfold Et.fines at h0
    have h1 := wr_le e h0.1
    have h2 := wrs_le l h0.2 true
    simp only [Et.wrs, Et.sizes, List.length_append]
    split <;> simp <;> omega
theorem wrbl_le : ∀ (ns : List ByteArray) (l : List Et), (∀ s ∈ ns, s.size ≤ 100) → Et.fines l → ∀ (b : Bool), (Et.wrb b ns l).length + (Et.wrl ns l).length ≤ 104 * ns.length + 30000 * Et.sizes l
  | [], [], _, _, b => by simp [Et.wrb, Et.wrl]
  | [], e :: l, hs, h, b => by
    have h0 := h
    unfold Et.fines at h0
    have h1 := wr_le e h0.1
    have h2 := wrbl_le [] l hs h0.2 true
    have e1 : Et.wrb b [] (e :: l) = [] := by unfold Et.wrb; rfl
    have e2 : Et.wrb true [] l = [] := by cases l <;> (unfold Et.wrb; rfl)
    rw [e2] at h2
    rw [e1]
    simp only [Et.wrl, Et.sizes, List.length_append, List.length_cons, List.length_nil] at h2 ⊢; omega
  | s :: ns, [], _, _, b => by simp [Et.wrb, Et.wrl]
  | s :: ns, e :: l, hs, h, b => by
    have h0 := h
    unfold Et.fines at h0
    have h1 := wr_le e h0.1
    have h2 := wrbl_le ns l (fun x hx => hs x (by simp [hx])) h0.2 true
    have h3 := hs s (by simp)
    have h4 := Lib.size_eq s
    simp only [Et.wrb, Et.wrl, Et.sizes, List.length_append, List.length_cons]
    split <;> simp <;> omega
end
set_option maxHeartbeats 4000000 in
set_option maxRecDepth 100000 in
theorem text_any (e : Et) (hr : e.right num = true) (hf : e.fine) (hs : e.size ≤ 10000) (S : Nat → Prop) (cs : Array Value) (w : World) (hat : Et.At S w e cs) : Calls Try.prog 19 #[.agg cs] w (RetStr ⟨e.wr.toArray⟩ w) := by
  obtain ⟨k, t, nv, av, rfl, o1, o2⟩ := EAt_form hat
  have z0 : (#[.int .i64 k, .string t, nv, av] : Array Value).all (·.oneCell') = true := by simp [Value.oneCell'] at o1 o2 ⊢; exact ⟨o1, o2⟩
  have hle := wr_le e hf
  have K0 := Lib.hid ((Below.refl w.heap.size w).alloc (Nat.le_refl _) (.cells #[.int .i64 k, .string t, nv, av] 28))
  have K2 := Lib.hid (alloc_at w (.cells #[.int .i64 k, .string t, nv, av] 28))
  have K3 : (w.alloc (.cells #[.int .i64 k, .string t, nv, av] 28)).heap.size = w.heap.size + 1 := by simp
  have HA := Lib.hid (Et.At.keeps (Keeps.of_below K0.out) _ _ hat)
  have HTC := Lib.hid (wr_tree e.size (by omega) e (Nat.le_refl _) hr hf)
  clear hat
  go_enter Try.func19, Try.ntmps19
  go_upto_region 1 with fail
  generalize w.alloc (.cells #[.int .i64 k, .string t, nv, av] 28) = W at K0 K2 K3 HA ⊢
  have F0 := Lib.hid (Wr.fresh W)
  have A2 := (Below.refl W.heap.size W).alloc (Nat.le_refl _) (.cells #[.pointer none, .slice none 0 0] 63)
  have F1 := Lib.hid (row_below A2 K2.out)
  have F2 := Lib.hid ((K0.out).alloc (by omega) (.cells #[.pointer none, .slice none 0 0] 63))
  have HA2 := Lib.hid (Et.At.keeps (Keeps.of_below A2) _ _ HA.out)
  have F3 : W.heap.size ≤ (W.alloc (.cells #[.pointer none, .slice none 0 0] 63)).heap.size := by simp
  clear A2
  go_upto_region 2 with fail
  generalize W.alloc (.cells #[.pointer none, .slice none 0 0] 63) = W2 at F0 F1 F2 F3 HA2 ⊢
  rw [K3] at F0 F3
  have HT := Lib.hid (HTC.out (w.heap.size + 1) (w.heap.size + 1) [] S _ W2 HA2.out F0.out (by simp; omega) F3)
  clear K3
  obtain ⟨gs, hgs⟩ : ∃ gs, gs = w.heap.size := ⟨_, rfl⟩
  rw [← hgs] at F1 HT F0 F3
  simp only [← hgs]
  have HGS := Lib.hid hgs
  clear hgs
  go_wp2_with (refine wpList_load_row rfl 28 _ rfl gs rfl 28 #[.int .i64 k, .string t, nv, av] (0, 0) _ F1.out Try.underlying28 rfl info28 ?_)
  refine HT.out.mono ?_
  rintro e' w3 ⟨rfl, hW, hF⟩
  have G0 := Lib.hid hW
  have G1 := Lib.hid (F2.out.trans (hF.1.mono (by have := HGS.out; omega)))
  have G2 : gs + 1 ≤ w3.heap.size := by have := hF.1.size; omega
  clear hW hF HT
  have HX := Lib.hid (text_of (gs + 1) (gs + 1) ([] ++ e.wr) w3 G0.out G2)
  go_wp2_with fail
  refine HX.out.mono ?_
  rintro e' w4 ⟨rfl, hb⟩
  have G3 := Lib.hid (G1.out.trans (hb.mono (by have := HGS.out; omega)))
  clear hb
  go_wp2_with fail
  go_ret
  exact ⟨rfl, G3.out⟩
end Go.Proofs.Ytpkcoplpfenliaa
/- The document's Names, row and Text. -/
namespace Go.Proofs.Ytpkcoplpfenliaa
open Go.RowKit Go.BigM
set_option linter.unusedVariables false
set_option linter.unusedSimpArgs false
theorem jn_snoc : ∀ (l : List ByteArray) (s : ByteArray), jn (l ++ [s]) = jn l ++ ((if 0 < l.length then [32] else []) ++ s.data.toList)
  | [], s => by simp [jn]
  | [x], s => by simp [jn]
  | x :: y :: l, s => by
    have := jn_snoc (y :: l) s
    simp only [List.cons_append, jn, List.append_assoc] at this ⊢
    rw [this]; simp
theorem jn_take (ns : List ByteArray) (j : Nat) (h : j < ns.length) : jn (ns.take (j + 1)) = jn (ns.take j) ++ ((if 0 < j then [32] else []) ++ ns[j].data.toList) := by
  rw [List.take_succ_eq_append_getElem h, jn_snoc, List.length_take, Nat.min_eq_left (by omega)]
def NmInv (ns : List ByteArray) (w : World) (sv iv : Value) (wr : World) : Prop :=
  ∃ (j : Nat) (sb : ByteArray), j ≤ ns.length ∧ iv = .int .i64 (j : Int) ∧ sv = .string sb ∧ sb = ⟨(jn (ns.take j)).toArray⟩ ∧ Below w.heap.size w wr
theorem size_mk (l : List UInt8) : (⟨l.toArray⟩ : ByteArray).size = l.length := by simp [ByteArray.size]
theorem app_data (a b : ByteArray) : (a ++ b).data.toList = a.data.toList ++ b.data.toList := by simp
theorem bytes_of {a : ByteArray} {l : List UInt8} (h : a.data.toList = l) : a = ⟨l.toArray⟩ := by
  cases a; simp at h; subst h; rfl
set_option maxHeartbeats 4000000 in
set_option maxRecDepth 100000 in
theorem names_any (ns : List ByteArray) (hs : ∀ s ∈ ns, s.size ≤ 100) (hn : ns.length ≤ 10000) (S : Nat → Prop) (nv : Value) (w : World) (h : NAt S w nv ns) : Calls Try.prog 32 #[nv] w (RetStr ⟨(jn ns).toArray⟩ w) := by
  obtain ⟨no, nc, rfl⟩ := h.form
  have HN := Lib.hid h
  have HSZ := Lib.hid hs
  clear h hs
  go_enter Try.func32, Try.ntmps32
  go_wp2_with fail
  go_loopw [3, 4] (fun sv iv wr => NmInv ns w sv iv wr) (fun _ iv _ => ns.length - (intOf iv).toNat)
  case atStart => exact ⟨0, _, Nat.zero_le _, rfl, rfl, rfl, Below.refl _ _⟩
  case round =>
    obtain ⟨j, sb, hj, rfl, rfl, hsb, hb⟩ := hrel
    have G2 := Lib.hid hb
    have G3 := Lib.hid (HN.out.keeps (Keeps.of_below hb))
    have HSB := Lib.hid hsb
    have hsl : sb.size ≤ 2000000 := by
      rw [hsb, size_mk]
      have h1 := jn_le (ns.take j) (fun s hs => HSZ.out s (List.mem_of_mem_take hs))
      rw [List.length_take] at h1; omega
    clear hb hsb
    by_cases hlt : j < ns.length
    · have q1 : decide ((j : Int) < (ns.length : Int)) = true := decide_eq_true (by omega)
      obtain ⟨g, o, rfl, hS, e0⟩ := G3.out.get j hlt
      obtain ⟨x, hx⟩ : ∃ x, ns[j] = x := ⟨_, rfl⟩
      have hxs : x.size ≤ 100 := by rw [← hx]; exact HSZ.out _ (List.getElem_mem hlt)
      have HTK := Lib.hid (jn_take ns j hlt)
      rw [hx] at e0 HTK
      clear hx hS G3
      by_cases hj0 : 0 < j
      · have q2 : decide ((0 : Int) < (j : Int)) = true := decide_eq_true (by omega)
        have HNX : Hid (NmInv ns w (.string (sb ++ ⟨#[32]⟩ ++ x)) (.int .i64 ((j : Int) + 1)) wr) := ⟨j + 1, _, by omega, by go_num, rfl, bytes_of (by rw [HTK.out, app_data, app_data, HSB.out, if_pos hj0]; simp), G2.out⟩
        go_wp2_with fail
        go_roundw
        case rel => exact HNX.out
        case measure => simp [intOf]; omega
      · have q2 : decide ((0 : Int) < (j : Int)) = false := decide_eq_false (by omega)
        have HNX : Hid (NmInv ns w (.string (sb ++ x)) (.int .i64 ((j : Int) + 1)) wr) := ⟨j + 1, _, by omega, by go_num, rfl, bytes_of (by rw [HTK.out, app_data, HSB.out, if_neg hj0]; simp), G2.out⟩
        go_wp2_with fail
        go_roundw
        case rel => exact HNX.out
        case measure => simp [intOf]; omega
    · have q1 : decide ((j : Int) < (ns.length : Int)) = false := decide_eq_false (by omega)
      obtain rfl : j = ns.length := by omega
      have HSE : Hid (sb = ⟨(jn ns).toArray⟩) := by show _ = _; rw [HSB.out, List.take_length]
      go_wp2_with fail
      go_ret
      exact ⟨by rw [HSE.out]; rfl, G2.out⟩
/-- The document's Text of a term. -/
def RTC (e : Et) : Prop := ∀ (S : Nat → Prop) (cs : Array Value) (w : World), Et.At S w e cs → Calls Try.prog 20 #[.agg cs] w (RetStr ⟨e.wr.toArray⟩ w)
def RowInv (l : List Et) (w : World) (sv iv : Value) (wr : World) : Prop :=
  ∃ (j : Nat) (sb : ByteArray), j ≤ l.length ∧ iv = .int .i64 (j : Int) ∧ sv = .string sb ∧ sb = ⟨(Et.wrs false (l.take j)).toArray⟩ ∧ Below w.heap.size w wr
set_option maxHeartbeats 4000000 in
set_option maxRecDepth 100000 in
theorem row_any (l : List Et) (ih : ∀ e ∈ l, RTC e) (hs : (Et.wrs false l).length ≤ 1000000000) (hn : l.length ≤ 100000) (S : Nat → Prop) (av0 : Value) (w : World) (h : AAt S w av0 l) : Calls Try.prog 44 #[av0] w (RetStr ⟨(Et.wrs false l).toArray⟩ w) := by
  obtain ⟨ao, ac, rfl⟩ := h.form
  have HN := Lib.hid h
  have IH := Lib.hid ih
  clear h ih
  go_enter Try.func44, Try.ntmps44
  go_wp2_with fail
  go_loopw [3, 4] (fun sv iv wr => RowInv l w sv iv wr) (fun _ iv _ => l.length - (intOf iv).toNat)
  case atStart => exact ⟨0, _, Nat.zero_le _, rfl, rfl, rfl, Below.refl _ _⟩
  case round =>
    obtain ⟨j, sb, hj, rfl, rfl, hsb, hb⟩ := hrel
    have G2 := Lib.hid hb
    have G3 := Lib.hid (HN.out.keeps (Keeps.of_below hb))
    have HSB := Lib.hid hsb
    clear hb
    by_cases hlt : j < l.length
    · have q1 : decide ((j : Int) < (l.length : Int)) = true := decide_eq_true (by omega)
      obtain ⟨g, o, k, t, nv, av, rfl, hS, -, hat, e0, e1, e2, e3, o1, o2⟩ := G3.out.get j hlt
      have HTK := Lib.hid (wrs_take l false j hlt)
      have hle := wrs_take_le l false (j + 1)
      rw [HTK.out, List.length_append, List.length_append] at hle
      have HC := Lib.hid (IH.out _ (List.getElem_mem hlt) _ _ wr hat)
      obtain ⟨x, hx⟩ : ∃ x : ByteArray, x = ⟨l[j].wr.toArray⟩ := ⟨_, rfl⟩
      have hxl : x.data.toList = l[j].wr := by rw [hx]
      have hxs : x.size = l[j].wr.length := by rw [hx, size_mk]
      have hsl : sb.size = (Et.wrs false (l.take j)).length := by rw [hsb, size_mk]
      rw [← hx] at HC
      have HXL := Lib.hid hxl
      clear hx hxl hS G3 hat hsb
      by_cases hj0 : 0 < j
      · have q2 : decide ((0 : Int) < (j : Int)) = true := decide_eq_true (by omega)
        have hb1 : sb.size + 1 + x.size ≤ 1000000000 := by simp [hj0] at hle; omega
        have HNX : Hid (∀ w', Below wr.heap.size wr w' → RowInv l w (.string (sb ++ ⟨#[32]⟩ ++ x)) (.int .i64 ((j : Int) + 1)) w') := fun w' hw' => ⟨j + 1, _, by omega, by go_num, rfl, bytes_of (by rw [HTK.out, app_data, app_data, HSB.out, HXL.out]; simp [hj0]), G2.out.trans (hw'.mono G2.out.size)⟩
        have hb2 : sb.size ≤ 1000000000 := by omega
        clear hle hsl hxs
        go_wp2_with fail
        refine HC.out.mono ?_
        rintro e w' ⟨rfl, hw'⟩
        have HN9 := Lib.hid (HNX.out w' hw')
        clear hw'
        go_wp2_with fail
        go_roundw
        case rel => exact HN9.out
        case measure => simp [intOf]; omega
      · have q2 : decide ((0 : Int) < (j : Int)) = false := decide_eq_false (by omega)
        have hb1 : sb.size + x.size ≤ 1000000000 := by simp [hj0] at hle; omega
        have HNX : Hid (∀ w', Below wr.heap.size wr w' → RowInv l w (.string (sb ++ x)) (.int .i64 ((j : Int) + 1)) w') := fun w' hw' => ⟨j + 1, _, by omega, by go_num, rfl, bytes_of (by rw [HTK.out, app_data, HSB.out, HXL.out]; simp [hj0]), G2.out.trans (hw'.mono G2.out.size)⟩
        clear hle hsl hxs
        go_wp2_with fail
        refine HC.out.mono ?_
        rintro e w' ⟨rfl, hw'⟩
        have HN9 := Lib.hid (HNX.out w' hw')
        clear hw'
        go_wp2_with fail
        go_roundw
        case rel => exact HN9.out
        case measure => simp [intOf]; omega
    · have q1 : decide ((j : Int) < (l.length : Int)) = false := decide_eq_false (by omega)
      obtain rfl : j = l.length := by omega
      have HSE : Hid (sb = ⟨(Et.wrs false l).toArray⟩) := by show _ = _; rw [HSB.out, List.take_length]
      clear hsb
      go_wp2_with fail
      go_ret
      exact ⟨by rw [HSE.out]; rfl, G2.out⟩
end Go.Proofs.Ytpkcoplpfenliaa
/- The document's Text of a term. -/
namespace Go.Proofs.Ytpkcoplpfenliaa
open Go.RowKit Go.BigM
set_option linter.unusedVariables false
set_option linter.unusedSimpArgs false
theorem wrs_true : ∀ (l : List Et), l ≠ [] → Et.wrs true l = 32 :: Et.wrs false l
  | [], h => absurd rfl h
  | e :: l, _ => by simp [Et.wrs]
theorem wrs_one : ∀ (l : List Et) (h : 0 < l.length), l.length = 1 → Et.wrs true l = (32 : UInt8) :: (l[0]'h).wr
  | [e], _, _ => by simp [Et.wrs]
set_option maxHeartbeats 8000000 in
set_option maxRecDepth 100000 in
theorem rt1 (t : ByteArray) (ns : List ByteArray) (a : List Et) (ih : ∀ e ∈ a, RTC e) (hl : a.length ≤ 100000) (hnl : ns.length ≤ 100) (hns : ∀ s ∈ ns, s.size ≤ 100) (hts : t.size ≤ 100) (hwl : (Et.mk 1 t ns a).wr.length ≤ 1000000000) : RTC (.mk 1 t ns a) := by
  intro S cs w hat
  rw [EAt_mk] at hat
  obtain ⟨nv, av, rfl, hm, hla⟩ := hat
  have o1 := hm.one
  have o2 := hla.one
  obtain ⟨no, nc, rfl⟩ := hm.form
  obtain ⟨ao, ac, rfl⟩ := hla.form
  obtain ⟨res, hres⟩ : ∃ res : ByteArray, res = ⟨(Et.mk 1 t ns a).wr.toArray⟩ := ⟨_, rfl⟩
  rw [← hres]
  have A1 := Lib.hid ((Below.refl w.heap.size w).alloc (Nat.le_refl _) (.cells #[.int .i64 1, .string t, .slice no ns.length nc, .slice ao a.length ac] 28))
  have HE1 : Hid (EB (w.alloc (.cells #[.int .i64 1, .string t, .slice no ns.length nc, .slice ao a.length ac] 28)) w.heap.size 1 t (.slice no ns.length nc) (.slice ao a.length ac)) := alloc_at _ _
  have HM1 := Lib.hid (hm.keeps (Keeps.of_below A1.out))
  have HA1 := Lib.hid (hla.keeps (Keeps.of_below A1.out))
  have hg1 : w.heap.size < (w.alloc (.cells #[.int .i64 1, .string t, .slice no ns.length nc, .slice ao a.length ac] 28)).heap.size := by simp
  have IH := Lib.hid ih
  have HNS := Lib.hid hns
  have HWL := Lib.hid hwl
  have HRES := Lib.hid hres
  clear hm hla ih hns hwl hres
  have hr5 := HRES.out
  rw [wr_mk] at hr5
  rw [if_neg (show ¬ (1 : Int) = 3 by decide)] at hr5
  rw [if_neg (show ¬ (1 : Int) = 4 by decide)] at hr5
  rw [if_neg (show ¬ (1 : Int) = 6 by decide)] at hr5
  rw [if_neg (show ¬ (1 : Int) = 7 by decide)] at hr5
  rw [if_neg (show ¬ (1 : Int) = 8 by decide)] at hr5
  rw [if_neg (show ¬ (1 : Int) = 9 by decide)] at hr5
  rw [if_neg (show ¬ (1 : Int) = 10 by decide)] at hr5
  have HR : Hid (res = t) := by show _ = _; rw [hr5]
  clear hr5
  go_enter Try.func20, Try.ntmps20
  go_upto_region 1 with fail
  generalize w.alloc (.cells #[.int .i64 1, .string t, .slice no ns.length nc, .slice ao a.length ac] 28) = W1 at A1 HE1 HM1 HA1 hg1 ⊢
  obtain ⟨gs, hgs⟩ : ∃ gs, gs = w.heap.size := ⟨_, rfl⟩
  rw [← hgs] at HE1 hg1
  simp only [← hgs]
  clear hgs
  obtain ⟨c0, c1, c2, c3⟩ := EB.cell _ _ _ _ _ _ HE1.out
  go_wp2_with fail
  go_ret
  exact ⟨by rw [HR.out]; rfl, A1.out⟩
set_option maxHeartbeats 8000000 in
set_option maxRecDepth 100000 in
theorem rt2 (t : ByteArray) (ns : List ByteArray) (a : List Et) (ih : ∀ e ∈ a, RTC e) (hl : a.length ≤ 100000) (hnl : ns.length ≤ 100) (hns : ∀ s ∈ ns, s.size ≤ 100) (hts : t.size ≤ 100) (hwl : (Et.mk 2 t ns a).wr.length ≤ 1000000000) : RTC (.mk 2 t ns a) := by
  intro S cs w hat
  rw [EAt_mk] at hat
  obtain ⟨nv, av, rfl, hm, hla⟩ := hat
  have o1 := hm.one
  have o2 := hla.one
  obtain ⟨no, nc, rfl⟩ := hm.form
  obtain ⟨ao, ac, rfl⟩ := hla.form
  obtain ⟨res, hres⟩ : ∃ res : ByteArray, res = ⟨(Et.mk 2 t ns a).wr.toArray⟩ := ⟨_, rfl⟩
  rw [← hres]
  have A1 := Lib.hid ((Below.refl w.heap.size w).alloc (Nat.le_refl _) (.cells #[.int .i64 2, .string t, .slice no ns.length nc, .slice ao a.length ac] 28))
  have HE1 : Hid (EB (w.alloc (.cells #[.int .i64 2, .string t, .slice no ns.length nc, .slice ao a.length ac] 28)) w.heap.size 2 t (.slice no ns.length nc) (.slice ao a.length ac)) := alloc_at _ _
  have HM1 := Lib.hid (hm.keeps (Keeps.of_below A1.out))
  have HA1 := Lib.hid (hla.keeps (Keeps.of_below A1.out))
  have hg1 : w.heap.size < (w.alloc (.cells #[.int .i64 2, .string t, .slice no ns.length nc, .slice ao a.length ac] 28)).heap.size := by simp
  have IH := Lib.hid ih
  have HNS := Lib.hid hns
  have HWL := Lib.hid hwl
  have HRES := Lib.hid hres
  clear hm hla ih hns hwl hres
  have hr5 := HRES.out
  rw [wr_mk] at hr5
  rw [if_neg (show ¬ (2 : Int) = 3 by decide)] at hr5
  rw [if_neg (show ¬ (2 : Int) = 4 by decide)] at hr5
  rw [if_neg (show ¬ (2 : Int) = 6 by decide)] at hr5
  rw [if_neg (show ¬ (2 : Int) = 7 by decide)] at hr5
  rw [if_neg (show ¬ (2 : Int) = 8 by decide)] at hr5
  rw [if_neg (show ¬ (2 : Int) = 9 by decide)] at hr5
  rw [if_neg (show ¬ (2 : Int) = 10 by decide)] at hr5
  have HR : Hid (res = t) := by show _ = _; rw [hr5]
  clear hr5
  go_enter Try.func20, Try.ntmps20
  go_upto_region 1 with fail
  generalize w.alloc (.cells #[.int .i64 2, .string t, .slice no ns.length nc, .slice ao a.length ac] 28) = W1 at A1 HE1 HM1 HA1 hg1 ⊢
  obtain ⟨gs, hgs⟩ : ∃ gs, gs = w.heap.size := ⟨_, rfl⟩
  rw [← hgs] at HE1 hg1
  simp only [← hgs]
  clear hgs
  obtain ⟨c0, c1, c2, c3⟩ := EB.cell _ _ _ _ _ _ HE1.out
  go_wp2_with fail
  go_ret
  exact ⟨by rw [HR.out]; rfl, A1.out⟩
set_option maxHeartbeats 8000000 in
set_option maxRecDepth 100000 in
theorem rt5 (t : ByteArray) (ns : List ByteArray) (a : List Et) (ih : ∀ e ∈ a, RTC e) (hl : a.length ≤ 100000) (hnl : ns.length ≤ 100) (hns : ∀ s ∈ ns, s.size ≤ 100) (hts : t.size ≤ 100) (hwl : (Et.mk 5 t ns a).wr.length ≤ 1000000000) : RTC (.mk 5 t ns a) := by
  intro S cs w hat
  rw [EAt_mk] at hat
  obtain ⟨nv, av, rfl, hm, hla⟩ := hat
  have o1 := hm.one
  have o2 := hla.one
  obtain ⟨no, nc, rfl⟩ := hm.form
  obtain ⟨ao, ac, rfl⟩ := hla.form
  obtain ⟨res, hres⟩ : ∃ res : ByteArray, res = ⟨(Et.mk 5 t ns a).wr.toArray⟩ := ⟨_, rfl⟩
  rw [← hres]
  have A1 := Lib.hid ((Below.refl w.heap.size w).alloc (Nat.le_refl _) (.cells #[.int .i64 5, .string t, .slice no ns.length nc, .slice ao a.length ac] 28))
  have HE1 : Hid (EB (w.alloc (.cells #[.int .i64 5, .string t, .slice no ns.length nc, .slice ao a.length ac] 28)) w.heap.size 5 t (.slice no ns.length nc) (.slice ao a.length ac)) := alloc_at _ _
  have HM1 := Lib.hid (hm.keeps (Keeps.of_below A1.out))
  have HA1 := Lib.hid (hla.keeps (Keeps.of_below A1.out))
  have hg1 : w.heap.size < (w.alloc (.cells #[.int .i64 5, .string t, .slice no ns.length nc, .slice ao a.length ac] 28)).heap.size := by simp
  have IH := Lib.hid ih
  have HNS := Lib.hid hns
  have HWL := Lib.hid hwl
  have HRES := Lib.hid hres
  clear hm hla ih hns hwl hres
  have hr5 := HRES.out
  rw [wr_mk] at hr5
  rw [if_neg (show ¬ (5 : Int) = 3 by decide)] at hr5
  rw [if_neg (show ¬ (5 : Int) = 4 by decide)] at hr5
  rw [if_neg (show ¬ (5 : Int) = 6 by decide)] at hr5
  rw [if_neg (show ¬ (5 : Int) = 7 by decide)] at hr5
  rw [if_neg (show ¬ (5 : Int) = 8 by decide)] at hr5
  rw [if_neg (show ¬ (5 : Int) = 9 by decide)] at hr5
  rw [if_neg (show ¬ (5 : Int) = 10 by decide)] at hr5
  have HR : Hid (res = t) := by show _ = _; rw [hr5]
  clear hr5
  go_enter Try.func20, Try.ntmps20
  go_upto_region 1 with fail
  generalize w.alloc (.cells #[.int .i64 5, .string t, .slice no ns.length nc, .slice ao a.length ac] 28) = W1 at A1 HE1 HM1 HA1 hg1 ⊢
  obtain ⟨gs, hgs⟩ : ∃ gs, gs = w.heap.size := ⟨_, rfl⟩
  rw [← hgs] at HE1 hg1
  simp only [← hgs]
  clear hgs
  obtain ⟨c0, c1, c2, c3⟩ := EB.cell _ _ _ _ _ _ HE1.out
  go_wp2_with fail
  go_ret
  exact ⟨by rw [HR.out]; rfl, A1.out⟩
set_option maxHeartbeats 8000000 in
set_option maxRecDepth 100000 in
theorem rt3 (t : ByteArray) (ns : List ByteArray) (a : List Et) (ih : ∀ e ∈ a, RTC e) (hl : a.length ≤ 100000) (hnl : ns.length ≤ 100) (hns : ∀ s ∈ ns, s.size ≤ 100) (hts : t.size ≤ 100) (hwl : (Et.mk 3 t ns a).wr.length ≤ 1000000000) : RTC (.mk 3 t ns a) := by
  intro S cs w hat
  rw [EAt_mk] at hat
  obtain ⟨nv, av, rfl, hm, hla⟩ := hat
  have o1 := hm.one
  have o2 := hla.one
  obtain ⟨no, nc, rfl⟩ := hm.form
  obtain ⟨ao, ac, rfl⟩ := hla.form
  obtain ⟨res, hres⟩ : ∃ res : ByteArray, res = ⟨(Et.mk 3 t ns a).wr.toArray⟩ := ⟨_, rfl⟩
  rw [← hres]
  have A1 := Lib.hid ((Below.refl w.heap.size w).alloc (Nat.le_refl _) (.cells #[.int .i64 3, .string t, .slice no ns.length nc, .slice ao a.length ac] 28))
  have HE1 : Hid (EB (w.alloc (.cells #[.int .i64 3, .string t, .slice no ns.length nc, .slice ao a.length ac] 28)) w.heap.size 3 t (.slice no ns.length nc) (.slice ao a.length ac)) := alloc_at _ _
  have HM1 := Lib.hid (hm.keeps (Keeps.of_below A1.out))
  have HA1 := Lib.hid (hla.keeps (Keeps.of_below A1.out))
  have hg1 : w.heap.size < (w.alloc (.cells #[.int .i64 3, .string t, .slice no ns.length nc, .slice ao a.length ac] 28)).heap.size := by simp
  have IH := Lib.hid ih
  have HNS := Lib.hid hns
  have HWL := Lib.hid hwl
  have HRES := Lib.hid hres
  clear hm hla ih hns hwl hres
  have hr5 := HRES.out
  rw [wr_mk] at hr5
  rw [if_pos rfl] at hr5
  have HR : Hid (res = ⟨#[40, 41]⟩) := by show _ = _; rw [hr5]
  clear hr5
  go_enter Try.func20, Try.ntmps20
  go_upto_region 1 with fail
  generalize w.alloc (.cells #[.int .i64 3, .string t, .slice no ns.length nc, .slice ao a.length ac] 28) = W1 at A1 HE1 HM1 HA1 hg1 ⊢
  obtain ⟨gs, hgs⟩ : ∃ gs, gs = w.heap.size := ⟨_, rfl⟩
  rw [← hgs] at HE1 hg1
  simp only [← hgs]
  clear hgs
  obtain ⟨c0, c1, c2, c3⟩ := EB.cell _ _ _ _ _ _ HE1.out
  go_wp2_with fail
  go_ret
  exact ⟨by rw [HR.out]; rfl, A1.out⟩
set_option maxHeartbeats 8000000 in
set_option maxRecDepth 100000 in
theorem rt4 (t : ByteArray) (ns : List ByteArray) (a : List Et) (ih : ∀ e ∈ a, RTC e) (hl : a.length ≤ 100000) (hnl : ns.length ≤ 100) (hns : ∀ s ∈ ns, s.size ≤ 100) (hts : t.size ≤ 100) (hwl : (Et.mk 4 t ns a).wr.length ≤ 1000000000) : RTC (.mk 4 t ns a) := by
  intro S cs w hat
  rw [EAt_mk] at hat
  obtain ⟨nv, av, rfl, hm, hla⟩ := hat
  have o1 := hm.one
  have o2 := hla.one
  obtain ⟨no, nc, rfl⟩ := hm.form
  obtain ⟨ao, ac, rfl⟩ := hla.form
  obtain ⟨res, hres⟩ : ∃ res : ByteArray, res = ⟨(Et.mk 4 t ns a).wr.toArray⟩ := ⟨_, rfl⟩
  rw [← hres]
  have A1 := Lib.hid ((Below.refl w.heap.size w).alloc (Nat.le_refl _) (.cells #[.int .i64 4, .string t, .slice no ns.length nc, .slice ao a.length ac] 28))
  have HE1 : Hid (EB (w.alloc (.cells #[.int .i64 4, .string t, .slice no ns.length nc, .slice ao a.length ac] 28)) w.heap.size 4 t (.slice no ns.length nc) (.slice ao a.length ac)) := alloc_at _ _
  have HM1 := Lib.hid (hm.keeps (Keeps.of_below A1.out))
  have HA1 := Lib.hid (hla.keeps (Keeps.of_below A1.out))
  have hg1 : w.heap.size < (w.alloc (.cells #[.int .i64 4, .string t, .slice no ns.length nc, .slice ao a.length ac] 28)).heap.size := by simp
  have IH := Lib.hid ih
  have HNS := Lib.hid hns
  have HWL := Lib.hid hwl
  have HRES := Lib.hid hres
  clear hm hla ih hns hwl hres
  have hr5 := HRES.out
  rw [wr_mk] at hr5
  rw [if_neg (show ¬ (4 : Int) = 3 by decide)] at hr5
  rw [if_pos rfl] at hr5
  have HR : Hid (res = ⟨#[39]⟩ ++ t) := by show _ = _; rw [hr5]; exact (bytes_of (by rw [app_data]; simp)).symm
  clear hr5
  go_enter Try.func20, Try.ntmps20
  go_upto_region 1 with fail
  generalize w.alloc (.cells #[.int .i64 4, .string t, .slice no ns.length nc, .slice ao a.length ac] 28) = W1 at A1 HE1 HM1 HA1 hg1 ⊢
  obtain ⟨gs, hgs⟩ : ∃ gs, gs = w.heap.size := ⟨_, rfl⟩
  rw [← hgs] at HE1 hg1
  simp only [← hgs]
  clear hgs
  obtain ⟨c0, c1, c2, c3⟩ := EB.cell _ _ _ _ _ _ HE1.out
  go_wp2_with fail
  go_ret
  exact ⟨by rw [HR.out]; rfl, A1.out⟩
set_option maxHeartbeats 8000000 in
set_option maxRecDepth 100000 in
theorem rt7 (t : ByteArray) (ns : List ByteArray) (a : List Et) (ih : ∀ e ∈ a, RTC e) (hl : a.length ≤ 100000) (hnl : ns.length ≤ 100) (hns : ∀ s ∈ ns, s.size ≤ 100) (hts : t.size ≤ 100) (hwl : (Et.mk 7 t ns a).wr.length ≤ 1000000000) : RTC (.mk 7 t ns a) := by
  intro S cs w hat
  rw [EAt_mk] at hat
  obtain ⟨nv, av, rfl, hm, hla⟩ := hat
  have o1 := hm.one
  have o2 := hla.one
  obtain ⟨no, nc, rfl⟩ := hm.form
  obtain ⟨ao, ac, rfl⟩ := hla.form
  obtain ⟨res, hres⟩ : ∃ res : ByteArray, res = ⟨(Et.mk 7 t ns a).wr.toArray⟩ := ⟨_, rfl⟩
  rw [← hres]
  have A1 := Lib.hid ((Below.refl w.heap.size w).alloc (Nat.le_refl _) (.cells #[.int .i64 7, .string t, .slice no ns.length nc, .slice ao a.length ac] 28))
  have HE1 : Hid (EB (w.alloc (.cells #[.int .i64 7, .string t, .slice no ns.length nc, .slice ao a.length ac] 28)) w.heap.size 7 t (.slice no ns.length nc) (.slice ao a.length ac)) := alloc_at _ _
  have HM1 := Lib.hid (hm.keeps (Keeps.of_below A1.out))
  have HA1 := Lib.hid (hla.keeps (Keeps.of_below A1.out))
  have hg1 : w.heap.size < (w.alloc (.cells #[.int .i64 7, .string t, .slice no ns.length nc, .slice ao a.length ac] 28)).heap.size := by simp
  have IH := Lib.hid ih
  have HNS := Lib.hid hns
  have HWL := Lib.hid hwl
  have HRES := Lib.hid hres
  clear hm hla ih hns hwl hres
  have hwf : (Et.wrs false a).length ≤ 1000000000 := by
    have h1 := HWL.out
    rw [wr_mk] at h1
    rw [if_neg (show ¬ (7 : Int) = 3 by decide)] at h1
    rw [if_neg (show ¬ (7 : Int) = 4 by decide)] at h1
    rw [if_neg (show ¬ (7 : Int) = 6 by decide)] at h1
    rw [if_pos rfl] at h1
    have h2 := Lib.size_eq t
    simp at h1
    omega
  obtain ⟨rb, hrb⟩ : ∃ rb : ByteArray, rb = ⟨(Et.wrs false a).toArray⟩ := ⟨_, rfl⟩
  have hrs : rb.size ≤ 1000000000 := by rw [hrb, size_mk]; omega
  have HRB := Lib.hid (fun (S : Nat → Prop) (W : World) (h : AAt S W (.slice ao a.length ac) a) => row_any a IH.out (by omega) hl S _ W h)
  rw [← hrb] at HRB
  have hr5 := HRES.out
  rw [wr_mk] at hr5
  rw [if_neg (show ¬ (7 : Int) = 3 by decide)] at hr5
  rw [if_neg (show ¬ (7 : Int) = 4 by decide)] at hr5
  rw [if_neg (show ¬ (7 : Int) = 6 by decide)] at hr5
  rw [if_pos rfl] at hr5
  have HR : Hid (res = ⟨#[40]⟩ ++ rb ++ ⟨#[41]⟩) := by show _ = _; rw [hr5]; exact (bytes_of (by rw [app_data, app_data, hrb]; simp)).symm
  clear hr5 hrb
  go_enter Try.func20, Try.ntmps20
  go_upto_region 1 with fail
  generalize w.alloc (.cells #[.int .i64 7, .string t, .slice no ns.length nc, .slice ao a.length ac] 28) = W1 at A1 HE1 HM1 HA1 hg1 ⊢
  obtain ⟨gs, hgs⟩ : ∃ gs, gs = w.heap.size := ⟨_, rfl⟩
  rw [← hgs] at HE1 hg1
  simp only [← hgs]
  clear hgs
  obtain ⟨c0, c1, c2, c3⟩ := EB.cell _ _ _ _ _ _ HE1.out
  have HC := Lib.hid (HRB.out S W1 HA1.out)
  go_wp2_with fail
  refine HC.out.mono ?_
  rintro e w5 ⟨rfl, hb5⟩
  have HB5 := Lib.hid (A1.out.trans (hb5.mono A1.out.size))
  clear hb5
  go_wp2_with fail
  go_ret
  exact ⟨by rw [HR.out]; rfl, HB5.out⟩
set_option maxHeartbeats 8000000 in
set_option maxRecDepth 100000 in
theorem rt8 (t : ByteArray) (ns : List ByteArray) (a : List Et) (ih : ∀ e ∈ a, RTC e) (hl : a.length ≤ 100000) (hnl : ns.length ≤ 100) (hns : ∀ s ∈ ns, s.size ≤ 100) (hts : t.size ≤ 100) (hwl : (Et.mk 8 t ns a).wr.length ≤ 1000000000) (hne0 : a ≠ []) : RTC (.mk 8 t ns a) := by
  intro S cs w hat
  rw [EAt_mk] at hat
  obtain ⟨nv, av, rfl, hm, hla⟩ := hat
  have o1 := hm.one
  have o2 := hla.one
  obtain ⟨no, nc, rfl⟩ := hm.form
  obtain ⟨ao, ac, rfl⟩ := hla.form
  obtain ⟨res, hres⟩ : ∃ res : ByteArray, res = ⟨(Et.mk 8 t ns a).wr.toArray⟩ := ⟨_, rfl⟩
  rw [← hres]
  have A1 := Lib.hid ((Below.refl w.heap.size w).alloc (Nat.le_refl _) (.cells #[.int .i64 8, .string t, .slice no ns.length nc, .slice ao a.length ac] 28))
  have HE1 : Hid (EB (w.alloc (.cells #[.int .i64 8, .string t, .slice no ns.length nc, .slice ao a.length ac] 28)) w.heap.size 8 t (.slice no ns.length nc) (.slice ao a.length ac)) := alloc_at _ _
  have HM1 := Lib.hid (hm.keeps (Keeps.of_below A1.out))
  have HA1 := Lib.hid (hla.keeps (Keeps.of_below A1.out))
  have hg1 : w.heap.size < (w.alloc (.cells #[.int .i64 8, .string t, .slice no ns.length nc, .slice ao a.length ac] 28)).heap.size := by simp
  have IH := Lib.hid ih
  have HNS := Lib.hid hns
  have HWL := Lib.hid hwl
  have HRES := Lib.hid hres
  clear hm hla ih hns hwl hres
  have HNE0 := Lib.hid hne0
  have hwf : (Et.wrs false a).length ≤ 1000000000 := by
    have h1 := HWL.out
    rw [wr_mk] at h1
    rw [if_neg (show ¬ (8 : Int) = 3 by decide)] at h1
    rw [if_neg (show ¬ (8 : Int) = 4 by decide)] at h1
    rw [if_neg (show ¬ (8 : Int) = 6 by decide)] at h1
    rw [if_neg (show ¬ (8 : Int) = 7 by decide)] at h1
    rw [if_pos rfl] at h1
    rw [wrs_true a hne0] at h1
    have h2 := Lib.size_eq t
    simp at h1
    omega
  obtain ⟨rb, hrb⟩ : ∃ rb : ByteArray, rb = ⟨(Et.wrs false a).toArray⟩ := ⟨_, rfl⟩
  have hrs : rb.size ≤ 1000000000 := by rw [hrb, size_mk]; omega
  have HRB := Lib.hid (fun (S : Nat → Prop) (W : World) (h : AAt S W (.slice ao a.length ac) a) => row_any a IH.out (by omega) hl S _ W h)
  rw [← hrb] at HRB
  have hr5 := HRES.out
  rw [wr_mk] at hr5
  rw [if_neg (show ¬ (8 : Int) = 3 by decide)] at hr5
  rw [if_neg (show ¬ (8 : Int) = 4 by decide)] at hr5
  rw [if_neg (show ¬ (8 : Int) = 6 by decide)] at hr5
  rw [if_neg (show ¬ (8 : Int) = 7 by decide)] at hr5
  rw [if_pos rfl] at hr5
  have HR : Hid (res = ⟨#[40, 105, 102, 32]⟩ ++ rb ++ ⟨#[41]⟩) := by show _ = _; rw [hr5]; exact (bytes_of (by rw [app_data, app_data, hrb]; rw [wrs_true a hne0]; simp)).symm
  clear hr5 hrb hne0
  go_enter Try.func20, Try.ntmps20
  go_upto_region 1 with fail
  generalize w.alloc (.cells #[.int .i64 8, .string t, .slice no ns.length nc, .slice ao a.length ac] 28) = W1 at A1 HE1 HM1 HA1 hg1 ⊢
  obtain ⟨gs, hgs⟩ : ∃ gs, gs = w.heap.size := ⟨_, rfl⟩
  rw [← hgs] at HE1 hg1
  simp only [← hgs]
  clear hgs
  obtain ⟨c0, c1, c2, c3⟩ := EB.cell _ _ _ _ _ _ HE1.out
  have HC := Lib.hid (HRB.out S W1 HA1.out)
  go_wp2_with fail
  refine HC.out.mono ?_
  rintro e w5 ⟨rfl, hb5⟩
  have HB5 := Lib.hid (A1.out.trans (hb5.mono A1.out.size))
  clear hb5
  go_wp2_with fail
  go_ret
  exact ⟨by rw [HR.out]; rfl, HB5.out⟩
set_option maxHeartbeats 8000000 in
set_option maxRecDepth 100000 in
theorem rt10 (t : ByteArray) (ns : List ByteArray) (a : List Et) (ih : ∀ e ∈ a, RTC e) (hl : a.length ≤ 100000) (hnl : ns.length ≤ 100) (hns : ∀ s ∈ ns, s.size ≤ 100) (hts : t.size ≤ 100) (hwl : (Et.mk 10 t ns a).wr.length ≤ 1000000000) (hne0 : a ≠ []) : RTC (.mk 10 t ns a) := by
  intro S cs w hat
  rw [EAt_mk] at hat
  obtain ⟨nv, av, rfl, hm, hla⟩ := hat
  have o1 := hm.one
  have o2 := hla.one
  obtain ⟨no, nc, rfl⟩ := hm.form
  obtain ⟨ao, ac, rfl⟩ := hla.form
  obtain ⟨res, hres⟩ : ∃ res : ByteArray, res = ⟨(Et.mk 10 t ns a).wr.toArray⟩ := ⟨_, rfl⟩
  rw [← hres]
  have A1 := Lib.hid ((Below.refl w.heap.size w).alloc (Nat.le_refl _) (.cells #[.int .i64 10, .string t, .slice no ns.length nc, .slice ao a.length ac] 28))
  have HE1 : Hid (EB (w.alloc (.cells #[.int .i64 10, .string t, .slice no ns.length nc, .slice ao a.length ac] 28)) w.heap.size 10 t (.slice no ns.length nc) (.slice ao a.length ac)) := alloc_at _ _
  have HM1 := Lib.hid (hm.keeps (Keeps.of_below A1.out))
  have HA1 := Lib.hid (hla.keeps (Keeps.of_below A1.out))
  have hg1 : w.heap.size < (w.alloc (.cells #[.int .i64 10, .string t, .slice no ns.length nc, .slice ao a.length ac] 28)).heap.size := by simp
  have IH := Lib.hid ih
  have HNS := Lib.hid hns
  have HWL := Lib.hid hwl
  have HRES := Lib.hid hres
  clear hm hla ih hns hwl hres
  have HNE0 := Lib.hid hne0
  have hwf : (Et.wrs false a).length ≤ 1000000000 := by
    have h1 := HWL.out
    rw [wr_mk] at h1
    rw [if_neg (show ¬ (10 : Int) = 3 by decide)] at h1
    rw [if_neg (show ¬ (10 : Int) = 4 by decide)] at h1
    rw [if_neg (show ¬ (10 : Int) = 6 by decide)] at h1
    rw [if_neg (show ¬ (10 : Int) = 7 by decide)] at h1
    rw [if_neg (show ¬ (10 : Int) = 8 by decide)] at h1
    rw [if_neg (show ¬ (10 : Int) = 9 by decide)] at h1
    rw [if_pos rfl] at h1
    rw [wrs_true a hne0] at h1
    have h2 := Lib.size_eq t
    simp at h1
    omega
  obtain ⟨rb, hrb⟩ : ∃ rb : ByteArray, rb = ⟨(Et.wrs false a).toArray⟩ := ⟨_, rfl⟩
  have hrs : rb.size ≤ 1000000000 := by rw [hrb, size_mk]; omega
  have HRB := Lib.hid (fun (S : Nat → Prop) (W : World) (h : AAt S W (.slice ao a.length ac) a) => row_any a IH.out (by omega) hl S _ W h)
  rw [← hrb] at HRB
  have hr5 := HRES.out
  rw [wr_mk] at hr5
  rw [if_neg (show ¬ (10 : Int) = 3 by decide)] at hr5
  rw [if_neg (show ¬ (10 : Int) = 4 by decide)] at hr5
  rw [if_neg (show ¬ (10 : Int) = 6 by decide)] at hr5
  rw [if_neg (show ¬ (10 : Int) = 7 by decide)] at hr5
  rw [if_neg (show ¬ (10 : Int) = 8 by decide)] at hr5
  rw [if_neg (show ¬ (10 : Int) = 9 by decide)] at hr5
  rw [if_pos rfl] at hr5
  have HR : Hid (res = ⟨#[40]⟩ ++ t ++ ⟨#[32]⟩ ++ rb ++ ⟨#[41]⟩) := by show _ = _; rw [hr5]; exact (bytes_of (by rw [app_data, app_data, app_data, app_data, hrb]; rw [wrs_true a hne0]; simp)).symm
  clear hr5 hrb hne0
  go_enter Try.func20, Try.ntmps20
  go_upto_region 1 with fail
  generalize w.alloc (.cells #[.int .i64 10, .string t, .slice no ns.length nc, .slice ao a.length ac] 28) = W1 at A1 HE1 HM1 HA1 hg1 ⊢
  obtain ⟨gs, hgs⟩ : ∃ gs, gs = w.heap.size := ⟨_, rfl⟩
  rw [← hgs] at HE1 hg1
  simp only [← hgs]
  clear hgs
  obtain ⟨c0, c1, c2, c3⟩ := EB.cell _ _ _ _ _ _ HE1.out
  have HS0 : Hid (Below W1.heap.size W1 W1.drew) := (Below.refl _ _).drew
  have HC := Lib.hid (HRB.out S W1.drew (HA1.out.keeps (Keeps.of_below HS0.out)))
  go_upto_region 20 with fail
  refine wp_region_noPanic ?_
  refine wp_region_held_drew (S := Below W1.heap.size W1) (by kernel_rfl) HS0.out (fun hHeld => ?_)
  generalize W1.drew = X at HS0 HC hHeld ⊢
  refine wpAnyH_take (i := 0) (v := Value.pointer (some ⟨gs, 1, none⟩)) rfl (by kernel_rfl) (by kernel_rfl) (by kernel_rfl) (fun _ _ _ h => h) (Or.inl ⟨rfl, fun w' hw' => ?_⟩) hHeld ?_
  · go_simp
  simp only [List.getElem_toArray, List.getElem_cons_succ, List.getElem_cons_zero, Act.put, List.setIfInBounds_toArray, List.set_cons_zero, List.set_cons_succ]
  refine wpAnyH_take (i := 1) (v := Value.string t) rfl (by kernel_rfl) (by kernel_rfl) (by kernel_rfl) (fun _ _ _ h => h) (Or.inl ⟨rfl, fun w' hw' => ?_⟩) hHeld ?_
  · have q9 := (EB.cell _ _ _ _ _ _ (row_below hw' HE1.out)); obtain ⟨d0, d1, d2, d3⟩ := q9; go_simp
  simp only [List.getElem_toArray, List.getElem_cons_succ, List.getElem_cons_zero, Act.put, List.setIfInBounds_toArray, List.set_cons_zero, List.set_cons_succ]
  refine wpAnyH_take (i := 2) (v := Value.string (⟨#[40]⟩ ++ t)) rfl (by kernel_rfl) (by kernel_rfl) (by kernel_rfl) (fun _ _ _ h => h) (Or.inl ⟨rfl, fun w' hw' => ?_⟩) hHeld ?_
  · go_simp; omega
  simp only [List.getElem_toArray, List.getElem_cons_succ, List.getElem_cons_zero, Act.put, List.setIfInBounds_toArray, List.set_cons_zero, List.set_cons_succ]
  refine wpAnyH_take (i := 3) (v := Value.string (⟨#[40]⟩ ++ t ++ ⟨#[32]⟩)) rfl (by kernel_rfl) (by kernel_rfl) (by kernel_rfl) (fun _ _ _ h => h) (Or.inl ⟨rfl, fun w' hw' => ?_⟩) hHeld ?_
  · go_simp; omega
  simp only [List.getElem_toArray, List.getElem_cons_succ, List.getElem_cons_zero, Act.put, List.setIfInBounds_toArray, List.set_cons_zero, List.set_cons_succ]
  refine wpAnyH_take (i := 4) (v := Value.pointer (some ⟨gs, 3, none⟩)) rfl (by kernel_rfl) (by kernel_rfl) (by kernel_rfl) (fun _ _ _ h => h) (Or.inl ⟨rfl, fun w' hw' => ?_⟩) hHeld ?_
  · go_simp
  simp only [List.getElem_toArray, List.getElem_cons_succ, List.getElem_cons_zero, Act.put, List.setIfInBounds_toArray, List.set_cons_zero, List.set_cons_succ]
  refine wpAnyH_take (i := 5) (v := Value.slice ao a.length ac) rfl (by kernel_rfl) (by kernel_rfl) (by kernel_rfl) (fun _ _ _ h => h) (Or.inl ⟨rfl, fun w' hw' => ?_⟩) hHeld ?_
  · have q9 := (EB.cell _ _ _ _ _ _ (row_below hw' HE1.out)); obtain ⟨d0, d1, d2, d3⟩ := q9; go_simp
  simp only [List.getElem_toArray, List.getElem_cons_succ, List.getElem_cons_zero, Act.put, List.setIfInBounds_toArray, List.set_cons_zero, List.set_cons_succ]
  refine wpAnyH_ready (rs := [6]) (by kernel_rfl) (by simp) ?_
  refine (AllReadyH.cons rfl (fun K hK => ?_) AllReadyH.nil)
  go_simp
  refine HC.out.mono ?_
  rintro e w5 ⟨rfl, hb5⟩
  have HS5 := Lib.hid (HS0.out.trans (hb5.mono HS0.out.size))
  clear hb5
  refine hK.out _ _ HS5.out (fun hHeld => ?_)
  clear hK K
  try simp only [List.getElem_toArray, List.getElem_cons_succ, List.getElem_cons_zero, Act.put, List.setIfInBounds_toArray, List.set_cons_zero, List.set_cons_succ]
  refine wpAnyH_take (i := 7) (v := Value.string (⟨#[40]⟩ ++ t ++ ⟨#[32]⟩ ++ rb)) rfl (by kernel_rfl) (by kernel_rfl) (by kernel_rfl) (fun _ _ _ h => h) (Or.inl ⟨rfl, fun w' hw' => ?_⟩) hHeld ?_
  · go_simp; omega
  simp only [List.getElem_toArray, List.getElem_cons_succ, List.getElem_cons_zero, Act.put, List.setIfInBounds_toArray, List.set_cons_zero, List.set_cons_succ]
  refine wpAnyH_take (i := 8) (v := Value.string (⟨#[40]⟩ ++ t ++ ⟨#[32]⟩ ++ rb ++ ⟨#[41]⟩)) rfl (by kernel_rfl) (by kernel_rfl) (by kernel_rfl) (fun _ _ _ h => h) (Or.inl ⟨rfl, fun w' hw' => ?_⟩) hHeld ?_
  · go_simp; omega
  simp only [List.getElem_toArray, List.getElem_cons_succ, List.getElem_cons_zero, Act.put, List.setIfInBounds_toArray, List.set_cons_zero, List.set_cons_succ]
  refine wpAnyH_take (i := 9) (v := Value.string (⟨#[40]⟩ ++ t ++ ⟨#[32]⟩ ++ rb ++ ⟨#[41]⟩)) rfl (by kernel_rfl) (by kernel_rfl) (by kernel_rfl) (fun _ _ _ h => h) (Or.inl ⟨rfl, fun w' hw' => ?_⟩) hHeld ?_
  · go_simp
  simp only [List.getElem_toArray, List.getElem_cons_succ, List.getElem_cons_zero, Act.put, List.setIfInBounds_toArray, List.set_cons_zero, List.set_cons_succ]
  refine wpAnyH_done (by kernel_rfl) ?_ _
  refine NoPanic.normal ?_
  clear hHeld
  go_wp2_with fail
  go_ret
  exact ⟨by rw [HR.out]; rfl, A1.out.trans (HS5.out.mono A1.out.size)⟩
set_option maxHeartbeats 8000000 in
set_option maxRecDepth 100000 in
theorem rt6 (t : ByteArray) (ns : List ByteArray) (a : List Et) (ih : ∀ e ∈ a, RTC e) (hl : a.length ≤ 100000) (hnl : ns.length ≤ 100) (hns : ∀ s ∈ ns, s.size ≤ 100) (hts : t.size ≤ 100) (hwl : (Et.mk 6 t ns a).wr.length ≤ 1000000000) (hla1 : a.length = 1) : RTC (.mk 6 t ns a) := by
  intro S cs w hat
  rw [EAt_mk] at hat
  obtain ⟨nv, av, rfl, hm, hla⟩ := hat
  have o1 := hm.one
  have o2 := hla.one
  obtain ⟨no, nc, rfl⟩ := hm.form
  obtain ⟨ao, ac, rfl⟩ := hla.form
  obtain ⟨res, hres⟩ : ∃ res : ByteArray, res = ⟨(Et.mk 6 t ns a).wr.toArray⟩ := ⟨_, rfl⟩
  rw [← hres]
  have A1 := Lib.hid ((Below.refl w.heap.size w).alloc (Nat.le_refl _) (.cells #[.int .i64 6, .string t, .slice no ns.length nc, .slice ao a.length ac] 28))
  have HE1 : Hid (EB (w.alloc (.cells #[.int .i64 6, .string t, .slice no ns.length nc, .slice ao a.length ac] 28)) w.heap.size 6 t (.slice no ns.length nc) (.slice ao a.length ac)) := alloc_at _ _
  have HM1 := Lib.hid (hm.keeps (Keeps.of_below A1.out))
  have HA1 := Lib.hid (hla.keeps (Keeps.of_below A1.out))
  have hg1 : w.heap.size < (w.alloc (.cells #[.int .i64 6, .string t, .slice no ns.length nc, .slice ao a.length ac] 28)).heap.size := by simp
  have IH := Lib.hid ih
  have HNS := Lib.hid hns
  have HWL := Lib.hid hwl
  have HRES := Lib.hid hres
  clear hm hla ih hns hwl hres
  have h0 : 0 < a.length := by omega
  obtain ⟨p, hp⟩ : ∃ p, p = a[0] := ⟨_, rfl⟩
  have HP0 := Lib.hid hp
  have hw1 : Et.wrs true a = 32 :: p.wr := by rw [hp]; exact wrs_one a h0 hla1
  have hjl : (jn ns).length ≤ 20000 := by have := jn_le ns HNS.out; omega
  have hpl : p.wr.length ≤ 1000000000 := by
    have h1 := HWL.out
    rw [wr_mk] at h1
    rw [if_neg (show ¬ (6 : Int) = 3 by decide)] at h1
    rw [if_neg (show ¬ (6 : Int) = 4 by decide)] at h1
    rw [if_pos rfl] at h1
    rw [hw1] at h1
    simp at h1
    omega
  obtain ⟨jb, hjb⟩ : ∃ jb : ByteArray, jb = ⟨(jn ns).toArray⟩ := ⟨_, rfl⟩
  obtain ⟨pb, hpb⟩ : ∃ pb : ByteArray, pb = ⟨p.wr.toArray⟩ := ⟨_, rfl⟩
  have hjs : jb.size ≤ 20000 := by rw [hjb, size_mk]; omega
  have hps : pb.size ≤ 1000000000 := by rw [hpb, size_mk]; omega
  have HJB := Lib.hid (fun (S : Nat → Prop) (W : World) (h : NAt S W (.slice no ns.length nc) ns) => names_any ns HNS.out (by omega) S _ W h)
  have HPB := Lib.hid (IH.out p (by rw [hp]; exact List.getElem_mem h0))
  have HPB2 : Hid (∀ (S : Nat → Prop) (cs : Array Value) (w : World), Et.At S w p cs → Calls Try.prog 20 #[.agg cs] w (RetStr pb w)) := by show ∀ S, _; rw [hpb]; exact HPB.out
  rw [← hjb] at HJB
  have hr5 := HRES.out
  rw [wr_mk] at hr5
  rw [if_neg (show ¬ (6 : Int) = 3 by decide)] at hr5
  rw [if_neg (show ¬ (6 : Int) = 4 by decide)] at hr5
  rw [if_pos rfl] at hr5
  have HR : Hid (res = ⟨#[40, 108, 97, 109, 98, 100, 97, 32, 40]⟩ ++ jb ++ ⟨#[41, 32]⟩ ++ pb ++ ⟨#[41]⟩) := by show _ = _; rw [hr5]; exact (bytes_of (by rw [app_data, app_data, app_data, app_data, hjb, hpb, hw1]; simp)).symm
  clear hr5 hjb hpb hla1 HPB hp hw1
  go_enter Try.func20, Try.ntmps20
  go_upto_region 1 with fail
  generalize w.alloc (.cells #[.int .i64 6, .string t, .slice no ns.length nc, .slice ao a.length ac] 28) = W1 at A1 HE1 HM1 HA1 hg1 ⊢
  obtain ⟨gs, hgs⟩ : ∃ gs, gs = w.heap.size := ⟨_, rfl⟩
  rw [← hgs] at HE1 hg1
  simp only [← hgs]
  clear hgs
  obtain ⟨c0, c1, c2, c3⟩ := EB.cell _ _ _ _ _ _ HE1.out
  have HS0 : Hid (Below W1.heap.size W1 W1.drew) := (Below.refl _ _).drew
  have HJ := Lib.hid (HJB.out S W1.drew (HM1.out.keeps (Keeps.of_below HS0.out)))
  obtain ⟨g, o, k5, t5, nv5, av5, rfl, hS5, -, hat5, e0, e1, e2, e3, o5, o6⟩ := HA1.out.get 0 h0
  rw [← HP0.out] at hat5
  have HAT5 := Lib.hid hat5
  have HPC : Hid (∀ w', Below W1.heap.size W1 w' → w'.cell? ⟨g, o, none⟩ = some (.int .i64 k5) ∧ w'.cell? ⟨g, o + 1, none⟩ = some (.string t5) ∧ w'.cell? ⟨g, o + 2, none⟩ = some nv5 ∧ w'.cell? ⟨g, o + 3, none⟩ = some av5) := by
    simp only [Nat.zero_mul, Nat.add_zero] at e0 e1 e2 e3
    exact fun w' hw' => ⟨cell_below hw' e0, cell_below hw' e1, cell_below hw' e2, cell_below hw' e3⟩
  clear hat5 hS5 e0 e1 e2 e3
  go_upto_region 7 with fail
  refine wp_region_noPanic ?_
  refine wp_region_held_drew (S := Below W1.heap.size W1) (by kernel_rfl) HS0.out (fun hHeld => ?_)
  generalize W1.drew = X at HS0 HJ hHeld ⊢
  refine wpAnyH_take (i := 0) (v := Value.pointer (some ⟨gs, 2, none⟩)) rfl (by kernel_rfl) (by kernel_rfl) (by kernel_rfl) (fun _ _ _ h => h) (Or.inl ⟨rfl, fun w' hw' => ?_⟩) hHeld ?_
  · go_simp
  simp only [List.getElem_toArray, List.getElem_cons_succ, List.getElem_cons_zero, Act.put, List.setIfInBounds_toArray, List.set_cons_zero, List.set_cons_succ]
  refine wpAnyH_take (i := 1) (v := Value.slice no ns.length nc) rfl (by kernel_rfl) (by kernel_rfl) (by kernel_rfl) (fun _ _ _ h => h) (Or.inl ⟨rfl, fun w' hw' => ?_⟩) hHeld ?_
  · have q9 := (EB.cell _ _ _ _ _ _ (row_below hw' HE1.out)); obtain ⟨d0, d1, d2, d3⟩ := q9; go_simp
  simp only [List.getElem_toArray, List.getElem_cons_succ, List.getElem_cons_zero, Act.put, List.setIfInBounds_toArray, List.set_cons_zero, List.set_cons_succ]
  refine wpAnyH_take (i := 5) (v := Value.pointer (some ⟨gs, 3, none⟩)) rfl (by kernel_rfl) (by kernel_rfl) (by kernel_rfl) (fun _ _ _ h => h) (Or.inl ⟨rfl, fun w' hw' => ?_⟩) hHeld ?_
  · go_simp
  simp only [List.getElem_toArray, List.getElem_cons_succ, List.getElem_cons_zero, Act.put, List.setIfInBounds_toArray, List.set_cons_zero, List.set_cons_succ]
  refine wpAnyH_take (i := 6) (v := Value.slice (some ⟨g, o, none⟩) a.length ac) rfl (by kernel_rfl) (by kernel_rfl) (by kernel_rfl) (fun _ _ _ h => h) (Or.inl ⟨rfl, fun w' hw' => ?_⟩) hHeld ?_
  · have q9 := (EB.cell _ _ _ _ _ _ (row_below hw' HE1.out)); obtain ⟨d0, d1, d2, d3⟩ := q9; go_simp
  simp only [List.getElem_toArray, List.getElem_cons_succ, List.getElem_cons_zero, Act.put, List.setIfInBounds_toArray, List.set_cons_zero, List.set_cons_succ]
  refine wpAnyH_take (i := 7) (v := Value.pointer (some ⟨g, o, none⟩)) rfl (by kernel_rfl) (by kernel_rfl) (by kernel_rfl) (fun _ _ _ h => h) (Or.inl ⟨rfl, fun w' hw' => ?_⟩) hHeld ?_
  · go_simp
  simp only [List.getElem_toArray, List.getElem_cons_succ, List.getElem_cons_zero, Act.put, List.setIfInBounds_toArray, List.set_cons_zero, List.set_cons_succ]
  refine wpAnyH_take (i := 8) (v := Value.agg #[.int .i64 k5, .string t5, nv5, av5]) rfl (by kernel_rfl) (by kernel_rfl) (by kernel_rfl) (fun _ _ _ h => h) (Or.inl ⟨rfl, fun w' hw' => ?_⟩) hHeld ?_
  · obtain ⟨d0, d1, d2, d3⟩ := HPC.out w' hw'; go_simp
  simp only [List.getElem_toArray, List.getElem_cons_succ, List.getElem_cons_zero, Act.put, List.setIfInBounds_toArray, List.set_cons_zero, List.set_cons_succ]
  refine wpAnyH_ready (rs := [2]) (by kernel_rfl) (by simp) ?_
  refine (AllReadyH.cons rfl (fun K hK => ?_) AllReadyH.nil)
  go_simp
  refine HJ.out.mono ?_
  rintro e w5 ⟨rfl, hb5⟩
  have HS5 := Lib.hid (HS0.out.trans (hb5.mono HS0.out.size))
  have HP5 := Lib.hid (HPB2.out _ _ w5 (Et.At.keeps (Keeps.of_below HS5.out) _ _ HAT5.out))
  clear hb5
  refine hK.out _ _ HS5.out (fun hHeld => ?_)
  clear hK K
  try simp only [List.getElem_toArray, List.getElem_cons_succ, List.getElem_cons_zero, Act.put, List.setIfInBounds_toArray, List.set_cons_zero, List.set_cons_succ]
  refine wpAnyH_take (i := 3) (v := Value.string (⟨#[40, 108, 97, 109, 98, 100, 97, 32, 40]⟩ ++ jb)) rfl (by kernel_rfl) (by kernel_rfl) (by kernel_rfl) (fun _ _ _ h => h) (Or.inl ⟨rfl, fun w' hw' => ?_⟩) hHeld ?_
  · go_simp; omega
  simp only [List.getElem_toArray, List.getElem_cons_succ, List.getElem_cons_zero, Act.put, List.setIfInBounds_toArray, List.set_cons_zero, List.set_cons_succ]
  refine wpAnyH_take (i := 4) (v := Value.string (⟨#[40, 108, 97, 109, 98, 100, 97, 32, 40]⟩ ++ jb ++ ⟨#[41, 32]⟩)) rfl (by kernel_rfl) (by kernel_rfl) (by kernel_rfl) (fun _ _ _ h => h) (Or.inl ⟨rfl, fun w' hw' => ?_⟩) hHeld ?_
  · go_simp; omega
  simp only [List.getElem_toArray, List.getElem_cons_succ, List.getElem_cons_zero, Act.put, List.setIfInBounds_toArray, List.set_cons_zero, List.set_cons_succ]
  refine wpAnyH_ready (rs := [9]) (by kernel_rfl) (by simp) ?_
  refine (AllReadyH.cons rfl (fun K hK => ?_) AllReadyH.nil)
  go_simp
  refine HP5.out.mono ?_
  rintro e w6 ⟨rfl, hb6⟩
  have HS6 := Lib.hid (HS5.out.trans (hb6.mono HS5.out.size))
  clear hb6
  refine hK.out _ _ HS6.out (fun hHeld => ?_)
  clear hK K
  try simp only [List.getElem_toArray, List.getElem_cons_succ, List.getElem_cons_zero, Act.put, List.setIfInBounds_toArray, List.set_cons_zero, List.set_cons_succ]
  refine wpAnyH_take (i := 10) (v := Value.string (⟨#[40, 108, 97, 109, 98, 100, 97, 32, 40]⟩ ++ jb ++ ⟨#[41, 32]⟩ ++ pb)) rfl (by kernel_rfl) (by kernel_rfl) (by kernel_rfl) (fun _ _ _ h => h) (Or.inl ⟨rfl, fun w' hw' => ?_⟩) hHeld ?_
  · go_simp; omega
  simp only [List.getElem_toArray, List.getElem_cons_succ, List.getElem_cons_zero, Act.put, List.setIfInBounds_toArray, List.set_cons_zero, List.set_cons_succ]
  refine wpAnyH_take (i := 11) (v := Value.string (⟨#[40, 108, 97, 109, 98, 100, 97, 32, 40]⟩ ++ jb ++ ⟨#[41, 32]⟩ ++ pb ++ ⟨#[41]⟩)) rfl (by kernel_rfl) (by kernel_rfl) (by kernel_rfl) (fun _ _ _ h => h) (Or.inl ⟨rfl, fun w' hw' => ?_⟩) hHeld ?_
  · go_simp; omega
  simp only [List.getElem_toArray, List.getElem_cons_succ, List.getElem_cons_zero, Act.put, List.setIfInBounds_toArray, List.set_cons_zero, List.set_cons_succ]
  refine wpAnyH_take (i := 12) (v := Value.string (⟨#[40, 108, 97, 109, 98, 100, 97, 32, 40]⟩ ++ jb ++ ⟨#[41, 32]⟩ ++ pb ++ ⟨#[41]⟩)) rfl (by kernel_rfl) (by kernel_rfl) (by kernel_rfl) (fun _ _ _ h => h) (Or.inl ⟨rfl, fun w' hw' => ?_⟩) hHeld ?_
  · go_simp
  simp only [List.getElem_toArray, List.getElem_cons_succ, List.getElem_cons_zero, Act.put, List.setIfInBounds_toArray, List.set_cons_zero, List.set_cons_succ]
  refine wpAnyH_done (by kernel_rfl) ?_ _
  refine NoPanic.normal ?_
  clear hHeld
  go_wp2_with fail
  go_ret
  exact ⟨by rw [HR.out]; rfl, A1.out.trans (HS6.out.mono A1.out.size)⟩
def RLInv (ns : List ByteArray) (a : List Et) (w : World) (sv iv : Value) (wr : World) : Prop :=
  ∃ (j : Nat) (sb : ByteArray), j ≤ ns.length ∧ iv = .int .i64 (j : Int) ∧ sv = .string sb ∧ sb.data.toList = [40, 108, 101, 116, 32, 40] ++ Et.wrb false (ns.take j) (a.take j) ∧ Below w.heap.size w wr
set_option maxHeartbeats 8000000 in
set_option maxRecDepth 100000 in
theorem rt9 (t : ByteArray) (ns : List ByteArray) (a : List Et) (ih : ∀ e ∈ a, RTC e) (hl : a.length ≤ 100000) (hnl : ns.length ≤ 100) (hns : ∀ s ∈ ns, s.size ≤ 100) (hts : t.size ≤ 100) (hwl : (Et.mk 9 t ns a).wr.length ≤ 1000000000) (hll : a.length = ns.length + 1) : RTC (.mk 9 t ns a) := by
  intro S cs w hat
  rw [EAt_mk] at hat
  obtain ⟨nv, av, rfl, hm, hla⟩ := hat
  have o1 := hm.one
  have o2 := hla.one
  obtain ⟨no, nc, rfl⟩ := hm.form
  obtain ⟨ao, ac, rfl⟩ := hla.form
  obtain ⟨res, hres⟩ : ∃ res : ByteArray, res = ⟨(Et.mk 9 t ns a).wr.toArray⟩ := ⟨_, rfl⟩
  rw [← hres]
  have A1 := Lib.hid ((Below.refl w.heap.size w).alloc (Nat.le_refl _) (.cells #[.int .i64 9, .string t, .slice no ns.length nc, .slice ao a.length ac] 28))
  have HE1 : Hid (EB (w.alloc (.cells #[.int .i64 9, .string t, .slice no ns.length nc, .slice ao a.length ac] 28)) w.heap.size 9 t (.slice no ns.length nc) (.slice ao a.length ac)) := alloc_at _ _
  have HM1 := Lib.hid (hm.keeps (Keeps.of_below A1.out))
  have HA1 := Lib.hid (hla.keeps (Keeps.of_below A1.out))
  have hg1 : w.heap.size < (w.alloc (.cells #[.int .i64 9, .string t, .slice no ns.length nc, .slice ao a.length ac] 28)).heap.size := by simp
  have IH := Lib.hid ih
  have HNS := Lib.hid hns
  have HWL := Lib.hid hwl
  have HRES := Lib.hid hres
  clear hm hla ih hns hwl hres
  have HLL := Lib.hid hll
  have hbl : (Et.wrb false ns a).length + (Et.wrl ns a).length + 8 ≤ 1000000000 := by
    have h1 := HWL.out
    rw [wr_mk] at h1
    rw [if_neg (show ¬ (9 : Int) = 3 by decide)] at h1
    rw [if_neg (show ¬ (9 : Int) = 4 by decide)] at h1
    rw [if_neg (show ¬ (9 : Int) = 6 by decide)] at h1
    rw [if_neg (show ¬ (9 : Int) = 7 by decide)] at h1
    rw [if_neg (show ¬ (9 : Int) = 8 by decide)] at h1
    rw [if_pos rfl] at h1
    simp at h1
    omega
  have hnl1 : ns.length < a.length := by omega
  obtain ⟨p, hp⟩ : ∃ p, p = a[ns.length] := ⟨_, rfl⟩
  have HPL : Hid (∀ j (hj : j < a.length), j = ns.length → a[j] = p) := by show ∀ j (hj : j < a.length), _ → _; rintro j hj rfl; exact hp.symm
  have hwl9 := wrl_last ns a hnl1 hll
  rw [← hp] at hwl9
  have hpl : (Et.wrb false ns a).length + p.wr.length + 9 ≤ 1000000000 := by rw [hwl9] at hbl; simp at hbl; omega
  obtain ⟨pb, hpb⟩ : ∃ pb : ByteArray, pb = ⟨p.wr.toArray⟩ := ⟨_, rfl⟩
  have hps : pb.size = p.wr.length := by rw [hpb, size_mk]
  have hpb1 : (Et.wrb false ns a).length + pb.size + 9 ≤ 1000000000 := by omega
  have HPB := Lib.hid (IH.out p (by rw [hp]; exact List.getElem_mem hnl1))
  have HPB2 : Hid (∀ (S : Nat → Prop) (cs : Array Value) (w : World), Et.At S w p cs → Calls Try.prog 20 #[.agg cs] w (RetStr pb w)) := by show ∀ S, _; rw [hpb]; exact HPB.out
  have hr5 := HRES.out
  rw [wr_mk] at hr5
  rw [if_neg (show ¬ (9 : Int) = 3 by decide)] at hr5
  rw [if_neg (show ¬ (9 : Int) = 4 by decide)] at hr5
  rw [if_neg (show ¬ (9 : Int) = 6 by decide)] at hr5
  rw [if_neg (show ¬ (9 : Int) = 7 by decide)] at hr5
  rw [if_neg (show ¬ (9 : Int) = 8 by decide)] at hr5
  rw [if_pos rfl] at hr5
  have HR : Hid (∀ sb : ByteArray, sb.data.toList = [40, 108, 101, 116, 32, 40] ++ Et.wrb false ns a → sb ++ ⟨#[41, 32]⟩ ++ pb ++ ⟨#[41]⟩ = res) := by
    show ∀ sb : ByteArray, _ → _
    intro sb hsb
    rw [hr5]
    refine bytes_of ?_
    rw [app_data, app_data, app_data, hsb, hpb, hwl9]; simp
  obtain ⟨m, hm⟩ : ∃ m, m = ns.length := ⟨_, rfl⟩
  have hnm : a.length = m + 1 := by omega
  have hlt9 : m < a.length := by omega
  have HM := Lib.hid hm
  have HAL := Lib.hid hnm
  clear hr5 hpb HPB hp hwl9 hbl hps hpl hll hnl1 hnm
  rw [← hm] at A1 HE1 hg1 ⊢
  have hm9 : Hid (NAt S (w.alloc (.cells #[.int .i64 9, .string t, .slice no m nc, .slice ao a.length ac] 28)) (.slice no m nc) ns) := by show NAt _ _ _ _; rw [hm]; exact HM1.out
  have ha9 : Hid (AAt S (w.alloc (.cells #[.int .i64 9, .string t, .slice no m nc, .slice ao a.length ac] 28)) (.slice ao a.length ac) a) := by show AAt _ _ _ _; rw [hm]; exact HA1.out
  clear HM1 HA1 hm
  have HM1 := hm9
  have HA1 := ha9
  clear hm9 ha9
  go_enter Try.func20, Try.ntmps20
  go_upto_region 1 with fail
  generalize w.alloc (.cells #[.int .i64 9, .string t, .slice no m nc, .slice ao a.length ac] 28) = W1 at A1 HE1 HM1 HA1 hg1 ⊢
  obtain ⟨gs, hgs⟩ : ∃ gs, gs = w.heap.size := ⟨_, rfl⟩
  rw [← hgs] at HE1 hg1
  simp only [← hgs]
  clear hgs
  obtain ⟨c0, c1, c2, c3⟩ := EB.cell _ _ _ _ _ _ HE1.out
  go_wp2_with fail
  go_loopw [3, 4] (fun sv iv wr => RLInv ns a W1 sv iv wr) (fun _ iv _ => ns.length - (intOf iv).toNat)
  case atStart => exact ⟨0, _, Nat.zero_le _, rfl, rfl, by simp [Et.wrb], Below.refl _ _⟩
  case round =>
    obtain ⟨j, sb, hj, rfl, rfl, hsb, hb⟩ := hrel
    have G2 := Lib.hid hb
    have GN := Lib.hid (HM1.out.keeps (Keeps.of_below hb))
    have GA := Lib.hid (HA1.out.keeps (Keeps.of_below hb))
    have HER : Hid (EB wr gs 9 t (.slice no m nc) (.slice ao a.length ac)) := row_below hb HE1.out
    have HSB := Lib.hid hsb
    have hsl : sb.size = 6 + (Et.wrb false (ns.take j) (a.take j)).length := by rw [Lib.size_eq, hsb]; simp; omega
    obtain ⟨c0r, c1r, c2r, c3r⟩ := EB.cell _ _ _ _ _ _ HER.out
    clear hb hsb c0 c1 c2 c3 c0r c1r
    by_cases hlt : j < m
    · have q1 : decide ((j : Int) < (m : Int)) = true := decide_eq_true (by omega)
      have hjn : j < ns.length := by have := HM.out; omega
      have hja : j < a.length := by omega
      obtain ⟨gn, on, rfl, -, hx0⟩ := GN.out.get j hjn
      obtain ⟨g, o, k5, t5, nv5, av5, rfl, hS5, -, hat5, e0, e1, e2, e3, o5, o6⟩ := GA.out.get j hja
      have HTK := Lib.hid (wrb_take ns a false j hja hjn)
      have hle := wrb_take_le ns a false (j + 1)
      rw [HTK.out] at hle
      obtain ⟨x, hx⟩ : ∃ x, ns[j] = x := ⟨_, rfl⟩
      have hxl := Lib.size_eq x
      rw [hx] at HTK hle hx0
      obtain ⟨xb, hxb⟩ : ∃ xb : ByteArray, xb = ⟨a[j].wr.toArray⟩ := ⟨_, rfl⟩
      have hxbl : xb.size = a[j].wr.length := by rw [hxb, size_mk]
      have HXB : Hid (xb.data.toList = a[j].wr) := by show _ = _; rw [hxb]
      have HXC : Hid (∀ (S : Nat → Prop) (cs : Array Value) (w : World), Et.At S w a[j] cs → Calls Try.prog 20 #[.agg cs] w (RetStr xb w)) := by show ∀ S, _; rw [hxb]; exact IH.out _ (List.getElem_mem hja)
      have HAT5 := Lib.hid hat5
      have HXN : Hid (∀ w', Below wr.heap.size wr w' → w'.cell? ⟨gn, on + j, none⟩ = some (.string x)) := fun w' hw' => cell_below hw' hx0
      have HPC : Hid (∀ w', Below wr.heap.size wr w' → w'.cell? ⟨g, o + j * 4, none⟩ = some (.int .i64 k5) ∧ w'.cell? ⟨g, o + j * 4 + 1, none⟩ = some (.string t5) ∧ w'.cell? ⟨g, o + j * 4 + 2, none⟩ = some nv5 ∧ w'.cell? ⟨g, o + j * 4 + 3, none⟩ = some av5) := fun w' hw' => ⟨cell_below hw' e0, cell_below hw' e1, cell_below hw' e2, cell_below hw' e3⟩
      clear hx hx0 hat5 hS5 e0 e1 e2 e3 hxb
      by_cases hj0 : 0 < j
      · skip
        have q2 : decide ((0 : Int) < (j : Int)) = true := decide_eq_true (by omega)
        obtain ⟨sc, hsc⟩ : ∃ sc, sc = (sb ++ ⟨#[32]⟩) := ⟨_, rfl⟩
        have hscl : sc.size + x.size + xb.size + 4 ≤ 1000000000 := by
          rw [hsc, ByteArray.size_append]
          have e32 : (⟨#[32]⟩ : ByteArray).size = 1 := rfl
          simp [hj0] at hle
          omega
        have HNX : Hid (∀ w', Below wr.heap.size wr w' → RLInv ns a W1 (.string (sc ++ ⟨#[40]⟩ ++ x ++ ⟨#[32]⟩ ++ xb ++ ⟨#[41]⟩)) (.int .i64 ((j : Int) + 1)) w') := fun w' hw' => ⟨j + 1, _, by have := HM.out; omega, by go_num, rfl, by rw [HTK.out, app_data, app_data, app_data, app_data, app_data, HXB.out, hsc]; simp [HSB.out, hj0], G2.out.trans (hw'.mono G2.out.size)⟩
        have hsb1 : sb.size + 1 ≤ 1000000000 := by rw [hsc, ByteArray.size_append] at hscl; have e32 : (⟨#[32]⟩ : ByteArray).size = 1 := rfl; omega
        have HSC := Lib.hid hsc
        clear hle hsc hxl hxbl hsl
        go_upto_region 17 with fail
        rw [← HSC.out]
        have HS0 : Hid (Below wr.heap.size wr wr.drew) := (Below.refl _ _).drew
        have HC := Lib.hid (HXC.out _ _ wr.drew (Et.At.keeps (Keeps.of_below HS0.out) _ _ HAT5.out))
        have HEC : Hid (∀ w', Below wr.heap.size wr w' → w'.cell? ⟨gs, 2, none⟩ = some (.slice (some ⟨gn, on, none⟩) m nc) ∧ w'.cell? ⟨gs, 3, none⟩ = some (.slice (some ⟨g, o, none⟩) a.length ac)) := fun w' hw' => ⟨(EB.cell _ _ _ _ _ _ (row_below hw' HER.out)).2.2.1, (EB.cell _ _ _ _ _ _ (row_below hw' HER.out)).2.2.2⟩
        refine wp_region_noPanic ?_
        refine wp_region_held_drew (S := Below wr.heap.size wr) (by kernel_rfl) HS0.out (fun hHeld => ?_)
        generalize wr.drew = X at HS0 HC hHeld ⊢
        refine wpAnyH_take (i := 0) (v := Value.string sc) rfl (by kernel_rfl) (by kernel_rfl) (by kernel_rfl) (fun _ _ _ h => h) (Or.inl ⟨rfl, fun w' hw' => ?_⟩) hHeld ?_
        · go_simp
        simp only [List.getElem_toArray, List.getElem_cons_succ, List.getElem_cons_zero, Act.put, List.setIfInBounds_toArray, List.set_cons_zero, List.set_cons_succ]
        refine wpAnyH_take (i := 1) (v := Value.string (sc ++ ⟨#[40]⟩)) rfl (by kernel_rfl) (by kernel_rfl) (by kernel_rfl) (fun _ _ _ h => h) (Or.inl ⟨rfl, fun w' hw' => ?_⟩) hHeld ?_
        · go_simp; omega
        simp only [List.getElem_toArray, List.getElem_cons_succ, List.getElem_cons_zero, Act.put, List.setIfInBounds_toArray, List.set_cons_zero, List.set_cons_succ]
        refine wpAnyH_take (i := 2) (v := Value.pointer (some ⟨gs, 2, none⟩)) rfl (by kernel_rfl) (by kernel_rfl) (by kernel_rfl) (fun _ _ _ h => h) (Or.inl ⟨rfl, fun w' hw' => ?_⟩) hHeld ?_
        · go_simp
        simp only [List.getElem_toArray, List.getElem_cons_succ, List.getElem_cons_zero, Act.put, List.setIfInBounds_toArray, List.set_cons_zero, List.set_cons_succ]
        refine wpAnyH_take (i := 3) (v := Value.slice (some ⟨gn, on, none⟩) m nc) rfl (by kernel_rfl) (by kernel_rfl) (by kernel_rfl) (fun _ _ _ h => h) (Or.inl ⟨rfl, fun w' hw' => ?_⟩) hHeld ?_
        · have q9 := (HEC.out w' hw').1; go_simp
        simp only [List.getElem_toArray, List.getElem_cons_succ, List.getElem_cons_zero, Act.put, List.setIfInBounds_toArray, List.set_cons_zero, List.set_cons_succ]
        refine wpAnyH_take (i := 4) (v := Value.int .i64 (j : Int)) rfl (by kernel_rfl) (by kernel_rfl) (by kernel_rfl) (fun _ _ _ h => h) (Or.inl ⟨rfl, fun w' hw' => ?_⟩) hHeld ?_
        · go_simp
        simp only [List.getElem_toArray, List.getElem_cons_succ, List.getElem_cons_zero, Act.put, List.setIfInBounds_toArray, List.set_cons_zero, List.set_cons_succ]
        refine wpAnyH_take (i := 5) (v := Value.pointer (some ⟨gn, on + j, none⟩)) rfl (by kernel_rfl) (by kernel_rfl) (by kernel_rfl) (fun _ _ _ h => h) (Or.inl ⟨rfl, fun w' hw' => ?_⟩) hHeld ?_
        · go_simp
        simp only [List.getElem_toArray, List.getElem_cons_succ, List.getElem_cons_zero, Act.put, List.setIfInBounds_toArray, List.set_cons_zero, List.set_cons_succ]
        refine wpAnyH_take (i := 6) (v := Value.string x) rfl (by kernel_rfl) (by kernel_rfl) (by kernel_rfl) (fun _ _ _ h => h) (Or.inl ⟨rfl, fun w' hw' => ?_⟩) hHeld ?_
        · have q9 := HXN.out w' hw'; go_simp
        simp only [List.getElem_toArray, List.getElem_cons_succ, List.getElem_cons_zero, Act.put, List.setIfInBounds_toArray, List.set_cons_zero, List.set_cons_succ]
        refine wpAnyH_take (i := 7) (v := Value.string (sc ++ ⟨#[40]⟩ ++ x)) rfl (by kernel_rfl) (by kernel_rfl) (by kernel_rfl) (fun _ _ _ h => h) (Or.inl ⟨rfl, fun w' hw' => ?_⟩) hHeld ?_
        · go_simp; omega
        simp only [List.getElem_toArray, List.getElem_cons_succ, List.getElem_cons_zero, Act.put, List.setIfInBounds_toArray, List.set_cons_zero, List.set_cons_succ]
        refine wpAnyH_take (i := 8) (v := Value.string (sc ++ ⟨#[40]⟩ ++ x ++ ⟨#[32]⟩)) rfl (by kernel_rfl) (by kernel_rfl) (by kernel_rfl) (fun _ _ _ h => h) (Or.inl ⟨rfl, fun w' hw' => ?_⟩) hHeld ?_
        · go_simp; omega
        simp only [List.getElem_toArray, List.getElem_cons_succ, List.getElem_cons_zero, Act.put, List.setIfInBounds_toArray, List.set_cons_zero, List.set_cons_succ]
        refine wpAnyH_take (i := 9) (v := Value.pointer (some ⟨gs, 3, none⟩)) rfl (by kernel_rfl) (by kernel_rfl) (by kernel_rfl) (fun _ _ _ h => h) (Or.inl ⟨rfl, fun w' hw' => ?_⟩) hHeld ?_
        · go_simp
        simp only [List.getElem_toArray, List.getElem_cons_succ, List.getElem_cons_zero, Act.put, List.setIfInBounds_toArray, List.set_cons_zero, List.set_cons_succ]
        refine wpAnyH_take (i := 10) (v := Value.slice (some ⟨g, o, none⟩) a.length ac) rfl (by kernel_rfl) (by kernel_rfl) (by kernel_rfl) (fun _ _ _ h => h) (Or.inl ⟨rfl, fun w' hw' => ?_⟩) hHeld ?_
        · have q9 := (HEC.out w' hw').2; go_simp
        simp only [List.getElem_toArray, List.getElem_cons_succ, List.getElem_cons_zero, Act.put, List.setIfInBounds_toArray, List.set_cons_zero, List.set_cons_succ]
        refine wpAnyH_take (i := 11) (v := Value.int .i64 (j : Int)) rfl (by kernel_rfl) (by kernel_rfl) (by kernel_rfl) (fun _ _ _ h => h) (Or.inl ⟨rfl, fun w' hw' => ?_⟩) hHeld ?_
        · go_simp
        simp only [List.getElem_toArray, List.getElem_cons_succ, List.getElem_cons_zero, Act.put, List.setIfInBounds_toArray, List.set_cons_zero, List.set_cons_succ]
        refine wpAnyH_take (i := 12) (v := Value.pointer (some ⟨g, o + j * 4, none⟩)) rfl (by kernel_rfl) (by kernel_rfl) (by kernel_rfl) (fun _ _ _ h => h) (Or.inl ⟨rfl, fun w' hw' => ?_⟩) hHeld ?_
        · go_simp
        simp only [List.getElem_toArray, List.getElem_cons_succ, List.getElem_cons_zero, Act.put, List.setIfInBounds_toArray, List.set_cons_zero, List.set_cons_succ]
        refine wpAnyH_take (i := 13) (v := Value.agg #[.int .i64 k5, .string t5, nv5, av5]) rfl (by kernel_rfl) (by kernel_rfl) (by kernel_rfl) (fun _ _ _ h => h) (Or.inl ⟨rfl, fun w' hw' => ?_⟩) hHeld ?_
        · obtain ⟨d0, d1, d2, d3⟩ := HPC.out w' hw'; go_simp
        simp only [List.getElem_toArray, List.getElem_cons_succ, List.getElem_cons_zero, Act.put, List.setIfInBounds_toArray, List.set_cons_zero, List.set_cons_succ]
        refine wpAnyH_ready (rs := [14]) (by kernel_rfl) (by simp) ?_
        refine (AllReadyH.cons rfl (fun K hK => ?_) AllReadyH.nil)
        go_simp
        refine HC.out.mono ?_
        rintro e w5 ⟨rfl, hb5⟩
        have HS5 := Lib.hid (HS0.out.trans (hb5.mono HS0.out.size))
        have HN5 := Lib.hid (HNX.out w5 HS5.out)
        clear hb5
        refine hK.out _ _ HS5.out (fun hHeld => ?_)
        clear hK K
        try simp only [List.getElem_toArray, List.getElem_cons_succ, List.getElem_cons_zero, Act.put, List.setIfInBounds_toArray, List.set_cons_zero, List.set_cons_succ]
        refine wpAnyH_take (i := 15) (v := Value.string (sc ++ ⟨#[40]⟩ ++ x ++ ⟨#[32]⟩ ++ xb)) rfl (by kernel_rfl) (by kernel_rfl) (by kernel_rfl) (fun _ _ _ h => h) (Or.inl ⟨rfl, fun w' hw' => ?_⟩) hHeld ?_
        · go_simp; omega
        simp only [List.getElem_toArray, List.getElem_cons_succ, List.getElem_cons_zero, Act.put, List.setIfInBounds_toArray, List.set_cons_zero, List.set_cons_succ]
        refine wpAnyH_take (i := 16) (v := Value.string (sc ++ ⟨#[40]⟩ ++ x ++ ⟨#[32]⟩ ++ xb ++ ⟨#[41]⟩)) rfl (by kernel_rfl) (by kernel_rfl) (by kernel_rfl) (fun _ _ _ h => h) (Or.inl ⟨rfl, fun w' hw' => ?_⟩) hHeld ?_
        · go_simp; omega
        simp only [List.getElem_toArray, List.getElem_cons_succ, List.getElem_cons_zero, Act.put, List.setIfInBounds_toArray, List.set_cons_zero, List.set_cons_succ]
        refine wpAnyH_take (i := 17) (v := Value.string (sc ++ ⟨#[40]⟩ ++ x ++ ⟨#[32]⟩ ++ xb ++ ⟨#[41]⟩)) rfl (by kernel_rfl) (by kernel_rfl) (by kernel_rfl) (fun _ _ _ h => h) (Or.inl ⟨rfl, fun w' hw' => ?_⟩) hHeld ?_
        · go_simp
        simp only [List.getElem_toArray, List.getElem_cons_succ, List.getElem_cons_zero, Act.put, List.setIfInBounds_toArray, List.set_cons_zero, List.set_cons_succ]
        refine wpAnyH_done (by kernel_rfl) ?_ _
        refine NoPanic.normal ?_
        clear hHeld
        go_wp2_with fail
        go_roundw
        case rel => exact HN5.out
        case measure => have := HM.out; simp [intOf]; omega
      · skip
        have q2 : decide ((0 : Int) < (j : Int)) = false := decide_eq_false (by omega)
        obtain ⟨sc, hsc⟩ : ∃ sc, sc = sb := ⟨_, rfl⟩
        have hscl : sc.size + x.size + xb.size + 4 ≤ 1000000000 := by
          rw [hsc]
          skip
          simp [hj0] at hle
          omega
        have HNX : Hid (∀ w', Below wr.heap.size wr w' → RLInv ns a W1 (.string (sc ++ ⟨#[40]⟩ ++ x ++ ⟨#[32]⟩ ++ xb ++ ⟨#[41]⟩)) (.int .i64 ((j : Int) + 1)) w') := fun w' hw' => ⟨j + 1, _, by have := HM.out; omega, by go_num, rfl, by rw [HTK.out, app_data, app_data, app_data, app_data, app_data, HXB.out, hsc]; simp [HSB.out, hj0], G2.out.trans (hw'.mono G2.out.size)⟩
        have HSC := Lib.hid hsc
        clear hle hsc hxl hxbl hsl
        go_upto_region 17 with fail
        obtain rfl : sc = sb := HSC.out
        have HS0 : Hid (Below wr.heap.size wr wr.drew) := (Below.refl _ _).drew
        have HC := Lib.hid (HXC.out _ _ wr.drew (Et.At.keeps (Keeps.of_below HS0.out) _ _ HAT5.out))
        have HEC : Hid (∀ w', Below wr.heap.size wr w' → w'.cell? ⟨gs, 2, none⟩ = some (.slice (some ⟨gn, on, none⟩) m nc) ∧ w'.cell? ⟨gs, 3, none⟩ = some (.slice (some ⟨g, o, none⟩) a.length ac)) := fun w' hw' => ⟨(EB.cell _ _ _ _ _ _ (row_below hw' HER.out)).2.2.1, (EB.cell _ _ _ _ _ _ (row_below hw' HER.out)).2.2.2⟩
        refine wp_region_noPanic ?_
        refine wp_region_held_drew (S := Below wr.heap.size wr) (by kernel_rfl) HS0.out (fun hHeld => ?_)
        generalize wr.drew = X at HS0 HC hHeld ⊢
        refine wpAnyH_take (i := 0) (v := Value.string sc) rfl (by kernel_rfl) (by kernel_rfl) (by kernel_rfl) (fun _ _ _ h => h) (Or.inl ⟨rfl, fun w' hw' => ?_⟩) hHeld ?_
        · go_simp
        simp only [List.getElem_toArray, List.getElem_cons_succ, List.getElem_cons_zero, Act.put, List.setIfInBounds_toArray, List.set_cons_zero, List.set_cons_succ]
        refine wpAnyH_take (i := 1) (v := Value.string (sc ++ ⟨#[40]⟩)) rfl (by kernel_rfl) (by kernel_rfl) (by kernel_rfl) (fun _ _ _ h => h) (Or.inl ⟨rfl, fun w' hw' => ?_⟩) hHeld ?_
        · go_simp; omega
        simp only [List.getElem_toArray, List.getElem_cons_succ, List.getElem_cons_zero, Act.put, List.setIfInBounds_toArray, List.set_cons_zero, List.set_cons_succ]
        refine wpAnyH_take (i := 2) (v := Value.pointer (some ⟨gs, 2, none⟩)) rfl (by kernel_rfl) (by kernel_rfl) (by kernel_rfl) (fun _ _ _ h => h) (Or.inl ⟨rfl, fun w' hw' => ?_⟩) hHeld ?_
        · go_simp
        simp only [List.getElem_toArray, List.getElem_cons_succ, List.getElem_cons_zero, Act.put, List.setIfInBounds_toArray, List.set_cons_zero, List.set_cons_succ]
        refine wpAnyH_take (i := 3) (v := Value.slice (some ⟨gn, on, none⟩) m nc) rfl (by kernel_rfl) (by kernel_rfl) (by kernel_rfl) (fun _ _ _ h => h) (Or.inl ⟨rfl, fun w' hw' => ?_⟩) hHeld ?_
        · have q9 := (HEC.out w' hw').1; go_simp
        simp only [List.getElem_toArray, List.getElem_cons_succ, List.getElem_cons_zero, Act.put, List.setIfInBounds_toArray, List.set_cons_zero, List.set_cons_succ]
        refine wpAnyH_take (i := 4) (v := Value.int .i64 (j : Int)) rfl (by kernel_rfl) (by kernel_rfl) (by kernel_rfl) (fun _ _ _ h => h) (Or.inl ⟨rfl, fun w' hw' => ?_⟩) hHeld ?_
        · go_simp
        simp only [List.getElem_toArray, List.getElem_cons_succ, List.getElem_cons_zero, Act.put, List.setIfInBounds_toArray, List.set_cons_zero, List.set_cons_succ]
        refine wpAnyH_take (i := 5) (v := Value.pointer (some ⟨gn, on + j, none⟩)) rfl (by kernel_rfl) (by kernel_rfl) (by kernel_rfl) (fun _ _ _ h => h) (Or.inl ⟨rfl, fun w' hw' => ?_⟩) hHeld ?_
        · go_simp
        simp only [List.getElem_toArray, List.getElem_cons_succ, List.getElem_cons_zero, Act.put, List.setIfInBounds_toArray, List.set_cons_zero, List.set_cons_succ]
        refine wpAnyH_take (i := 6) (v := Value.string x) rfl (by kernel_rfl) (by kernel_rfl) (by kernel_rfl) (fun _ _ _ h => h) (Or.inl ⟨rfl, fun w' hw' => ?_⟩) hHeld ?_
        · have q9 := HXN.out w' hw'; go_simp
        simp only [List.getElem_toArray, List.getElem_cons_succ, List.getElem_cons_zero, Act.put, List.setIfInBounds_toArray, List.set_cons_zero, List.set_cons_succ]
        refine wpAnyH_take (i := 7) (v := Value.string (sc ++ ⟨#[40]⟩ ++ x)) rfl (by kernel_rfl) (by kernel_rfl) (by kernel_rfl) (fun _ _ _ h => h) (Or.inl ⟨rfl, fun w' hw' => ?_⟩) hHeld ?_
        · go_simp; omega
        simp only [List.getElem_toArray, List.getElem_cons_succ, List.getElem_cons_zero, Act.put, List.setIfInBounds_toArray, List.set_cons_zero, List.set_cons_succ]
        refine wpAnyH_take (i := 8) (v := Value.string (sc ++ ⟨#[40]⟩ ++ x ++ ⟨#[32]⟩)) rfl (by kernel_rfl) (by kernel_rfl) (by kernel_rfl) (fun _ _ _ h => h) (Or.inl ⟨rfl, fun w' hw' => ?_⟩) hHeld ?_
        · go_simp; omega
        simp only [List.getElem_toArray, List.getElem_cons_succ, List.getElem_cons_zero, Act.put, List.setIfInBounds_toArray, List.set_cons_zero, List.set_cons_succ]
        refine wpAnyH_take (i := 9) (v := Value.pointer (some ⟨gs, 3, none⟩)) rfl (by kernel_rfl) (by kernel_rfl) (by kernel_rfl) (fun _ _ _ h => h) (Or.inl ⟨rfl, fun w' hw' => ?_⟩) hHeld ?_
        · go_simp
        simp only [List.getElem_toArray, List.getElem_cons_succ, List.getElem_cons_zero, Act.put, List.setIfInBounds_toArray, List.set_cons_zero, List.set_cons_succ]
        refine wpAnyH_take (i := 10) (v := Value.slice (some ⟨g, o, none⟩) a.length ac) rfl (by kernel_rfl) (by kernel_rfl) (by kernel_rfl) (fun _ _ _ h => h) (Or.inl ⟨rfl, fun w' hw' => ?_⟩) hHeld ?_
        · have q9 := (HEC.out w' hw').2; go_simp
        simp only [List.getElem_toArray, List.getElem_cons_succ, List.getElem_cons_zero, Act.put, List.setIfInBounds_toArray, List.set_cons_zero, List.set_cons_succ]
        refine wpAnyH_take (i := 11) (v := Value.int .i64 (j : Int)) rfl (by kernel_rfl) (by kernel_rfl) (by kernel_rfl) (fun _ _ _ h => h) (Or.inl ⟨rfl, fun w' hw' => ?_⟩) hHeld ?_
        · go_simp
        simp only [List.getElem_toArray, List.getElem_cons_succ, List.getElem_cons_zero, Act.put, List.setIfInBounds_toArray, List.set_cons_zero, List.set_cons_succ]
        refine wpAnyH_take (i := 12) (v := Value.pointer (some ⟨g, o + j * 4, none⟩)) rfl (by kernel_rfl) (by kernel_rfl) (by kernel_rfl) (fun _ _ _ h => h) (Or.inl ⟨rfl, fun w' hw' => ?_⟩) hHeld ?_
        · go_simp
        simp only [List.getElem_toArray, List.getElem_cons_succ, List.getElem_cons_zero, Act.put, List.setIfInBounds_toArray, List.set_cons_zero, List.set_cons_succ]
        refine wpAnyH_take (i := 13) (v := Value.agg #[.int .i64 k5, .string t5, nv5, av5]) rfl (by kernel_rfl) (by kernel_rfl) (by kernel_rfl) (fun _ _ _ h => h) (Or.inl ⟨rfl, fun w' hw' => ?_⟩) hHeld ?_
        · obtain ⟨d0, d1, d2, d3⟩ := HPC.out w' hw'; go_simp
        simp only [List.getElem_toArray, List.getElem_cons_succ, List.getElem_cons_zero, Act.put, List.setIfInBounds_toArray, List.set_cons_zero, List.set_cons_succ]
        refine wpAnyH_ready (rs := [14]) (by kernel_rfl) (by simp) ?_
        refine (AllReadyH.cons rfl (fun K hK => ?_) AllReadyH.nil)
        go_simp
        refine HC.out.mono ?_
        rintro e w5 ⟨rfl, hb5⟩
        have HS5 := Lib.hid (HS0.out.trans (hb5.mono HS0.out.size))
        have HN5 := Lib.hid (HNX.out w5 HS5.out)
        clear hb5
        refine hK.out _ _ HS5.out (fun hHeld => ?_)
        clear hK K
        try simp only [List.getElem_toArray, List.getElem_cons_succ, List.getElem_cons_zero, Act.put, List.setIfInBounds_toArray, List.set_cons_zero, List.set_cons_succ]
        refine wpAnyH_take (i := 15) (v := Value.string (sc ++ ⟨#[40]⟩ ++ x ++ ⟨#[32]⟩ ++ xb)) rfl (by kernel_rfl) (by kernel_rfl) (by kernel_rfl) (fun _ _ _ h => h) (Or.inl ⟨rfl, fun w' hw' => ?_⟩) hHeld ?_
        · go_simp; omega
        simp only [List.getElem_toArray, List.getElem_cons_succ, List.getElem_cons_zero, Act.put, List.setIfInBounds_toArray, List.set_cons_zero, List.set_cons_succ]
        refine wpAnyH_take (i := 16) (v := Value.string (sc ++ ⟨#[40]⟩ ++ x ++ ⟨#[32]⟩ ++ xb ++ ⟨#[41]⟩)) rfl (by kernel_rfl) (by kernel_rfl) (by kernel_rfl) (fun _ _ _ h => h) (Or.inl ⟨rfl, fun w' hw' => ?_⟩) hHeld ?_
        · go_simp; omega
        simp only [List.getElem_toArray, List.getElem_cons_succ, List.getElem_cons_zero, Act.put, List.setIfInBounds_toArray, List.set_cons_zero, List.set_cons_succ]
        refine wpAnyH_take (i := 17) (v := Value.string (sc ++ ⟨#[40]⟩ ++ x ++ ⟨#[32]⟩ ++ xb ++ ⟨#[41]⟩)) rfl (by kernel_rfl) (by kernel_rfl) (by kernel_rfl) (fun _ _ _ h => h) (Or.inl ⟨rfl, fun w' hw' => ?_⟩) hHeld ?_
        · go_simp
        simp only [List.getElem_toArray, List.getElem_cons_succ, List.getElem_cons_zero, Act.put, List.setIfInBounds_toArray, List.set_cons_zero, List.set_cons_succ]
        refine wpAnyH_done (by kernel_rfl) ?_ _
        refine NoPanic.normal ?_
        clear hHeld
        go_wp2_with fail
        go_roundw
        case rel => exact HN5.out
        case measure => have := HM.out; simp [intOf]; omega
    · have q1 : decide ((j : Int) < (m : Int)) = false := decide_eq_false (by omega)
      obtain rfl : j = m := by have := HM.out; omega
      have hsb9 : sb.data.toList = [40, 108, 101, 116, 32, 40] ++ Et.wrb false ns a := by
        have h1 := HSB.out
        rw [HM.out, List.take_length, wrb_short] at h1
        exact h1
      have hsl9 : sb.size = 6 + (Et.wrb false ns a).length := by rw [Lib.size_eq, hsb9]; simp; omega
      have hbd : sb.size + pb.size + 3 ≤ 1000000000 := by omega
      have HRS := Lib.hid (HR.out sb hsb9)
      obtain ⟨g, o, k5, t5, nv5, av5, rfl, hS5, -, hat5, e0, e1, e2, e3, o5, o6⟩ := GA.out.get j hlt9
      have hpj : a[j] = p := HPL.out j hlt9 HM.out
      rw [hpj] at hat5
      have HC := Lib.hid (HPB2.out _ _ wr hat5)
      clear hsb9 hsl9 hsl hpj hat5 hS5
      go_wp2_with fail
      refine HC.out.mono ?_
      rintro e w5 ⟨rfl, hb5⟩
      have HB5 := Lib.hid ((A1.out.trans (G2.out.mono A1.out.size)).trans (hb5.mono (Nat.le_trans A1.out.size G2.out.size)))
      clear hb5
      go_wp2_with fail
      go_ret
      exact ⟨by rw [← HRS.out]; rfl, HB5.out⟩
theorem reftext_tree (N : Nat) : N ≤ 10000 → ∀ (e : Et), e.size ≤ N → e.right num = true → e.fine → RTC e := by
  induction N with
  | zero => intro _ e he; cases e; simp [Et.size] at he
  | succ N IH =>
    intro hN e he hr hf
    obtain ⟨k, t, ns, a⟩ := e
    have hwl := wr_le _ hf
    have hsz : Et.sizes a ≤ N := by simp only [Et.size] at he; omega
    have hl := length_esizes a
    obtain ⟨hk, hra, h9, h10, h6, h8, h7, h10a, -, -⟩ := kind_of_right hr
    rw [fine_mk] at hf
    obtain ⟨hf1, hf2, hf3, hf4⟩ := hf
    have ih : ∀ e ∈ a, RTC e := by
      intro e hm
      obtain ⟨j, hj, rfl⟩ := List.getElem_of_mem hm
      exact IH (by omega) _ (by have := esize_get a j hj; omega) ((rights_all a).1 hra _ hm) (hf4 _ hm)
    have hl5 : a.length ≤ 100000 := by omega
    have hwl5 : (Et.mk k t ns a).wr.length ≤ 1000000000 := by omega
    have ne : 0 < a.length → a ≠ [] := by rintro h rfl; simp at h
    rcases hk with rfl | rfl | rfl | rfl | rfl | rfl | rfl | rfl | rfl | rfl
    · exact rt1 t ns a ih hl5 hf2 hf3 hf1 hwl5
    · exact rt2 t ns a ih hl5 hf2 hf3 hf1 hwl5
    · exact rt3 t ns a ih hl5 hf2 hf3 hf1 hwl5
    · exact rt4 t ns a ih hl5 hf2 hf3 hf1 hwl5
    · exact rt5 t ns a ih hl5 hf2 hf3 hf1 hwl5
    · exact rt6 t ns a ih hl5 hf2 hf3 hf1 hwl5 (h6 rfl).1
    · exact rt7 t ns a ih hl5 hf2 hf3 hf1 hwl5
    · exact rt8 t ns a ih hl5 hf2 hf3 hf1 hwl5 (ne (by have := h8 rfl; omega))
    · exact rt9 t ns a ih hl5 hf2 hf3 hf1 hwl5 (h9 rfl).1
    · exact rt10 t ns a ih hl5 hf2 hf3 hf1 hwl5 (ne (by have := h10 rfl; have := h10a rfl; omega))
theorem reftext_any (e : Et) (hr : e.right num = true) (hf : e.fine) (hs : e.size ≤ 10000) : RTC e := reftext_tree e.size hs e (Nat.le_refl _) hr hf
end Go.Proofs.Ytpkcoplpfenliaa
