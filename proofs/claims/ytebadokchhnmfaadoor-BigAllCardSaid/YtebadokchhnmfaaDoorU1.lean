/- The contract of Num: a number's text of digits by numbers. -/
import Derived.Test.YtebadokchhnmfaaDoorR1
import Derived.Test.YtebadokchhnmfaaDoorG2
namespace Go.Proofs.YtebadokchhnmfaaDoor
open Go.RowKit Go.BigM
set_option linter.unusedVariables false

/-- Some number from 0 to n - 1 comes back. -/
def SomeR (n : Nat) (w : World) (e : Ending) (w' : World) : Prop := ∃ r : Nat, r < n ∧ e = .returned (.int .i64 r) ∧ w = w'
def I64 (a : Int) : Prop := -9223372036854775808 ≤ a ∧ a ≤ 9223372036854775807
theorem I64_wrap (a : Int) : I64 (wrap64 a) := by unfold I64 wrap64; omega
theorem within_some (a : Int) (n : Nat) (ha : I64 a) (h1 : 1 ≤ n) (h2 : n ≤ 1000) (w : World) : Calls Tryd.prog 15 #[.int .i64 a, .int .i64 n] w (SomeR n w) := by
  refine (within_any a n w ha.1 ha.2 (by omega) (by omega)).mono ?_
  rintro e w' ⟨he, hw⟩
  have h3 := Int.emod_nonneg a (show (n : Int) ≠ 0 by omega)
  have h4 := Int.emod_lt_of_pos a (show (0 : Int) < n by omega)
  exact ⟨(a % n).toNat, by omega, by rw [he]; exact ret_int (by omega), hw⟩

/-- A row of at most so many digits, with no nought ahead. -/
def NumS (most : Nat) (S : ByteArray) : Prop := S.size ≤ most ∧ (∀ c ∈ S.data.toList, isD c) ∧ S.data.toList.head? ≠ some 48
theorem NumS.nil (most : Nat) : NumS most ⟨#[]⟩ := ⟨Nat.zero_le _, by intro c hc; simp at hc, by simp⟩
theorem NumS.put {most : Nat} {S : ByteArray} (h : NumS most S) (hl : S.size < most) (d : Nat) (hd : d < 10) (h0 : S.size ≠ 0 ∨ d ≠ 0) : NumS most (S ++ ⟨#[UInt8.ofNat (48 + d)]⟩) := by
  have e : (S ++ ⟨#[UInt8.ofNat (48 + d)]⟩ : ByteArray).data.toList = S.data.toList ++ [UInt8.ofNat (48 + d)] := by simp [ByteArray.data_append]
  have hc : isD (UInt8.ofNat (48 + d)) := by unfold isD; rw [dig_nat d hd]; omega
  refine ⟨?_, ?_, ?_⟩
  · rw [Lib.size_eq, e, List.length_append, ← Lib.size_eq]; simp; omega
  · intro c hcm
    rw [e] at hcm
    simp only [List.mem_append, List.mem_singleton] at hcm
    rcases hcm with hcm | rfl
    · exact h.2.1 c hcm
    · exact hc
  · rw [e]
    cases hS : S.data.toList with
    | nil =>
      intro e2
      have e2 : UInt8.ofNat (48 + d) = 48 := by injection e2
      have := congrArg UInt8.toNat e2
      rw [dig_nat d hd] at this
      have h48 : (48 : UInt8).toNat = 48 := rfl
      rcases h0 with h0 | h0
      · rw [Lib.size_eq, hS] at h0; simp at h0
      · omega
    | cons a m =>
      have := h.2.2
      rw [hS] at this
      simpa using this

theorem conv_digit (w : World) (d : Nat) (hd : d < 10) :
    (convert 25 9 (.slice (some ⟨w.heap.size, 0, none⟩) 1 1)).run Tryd.prog (w.alloc (.cells #[.int .u8 (48 + (d : Int))] 5)) = .ok (.string ⟨#[UInt8.ofNat (48 + d)]⟩) (w.alloc (.cells #[.int .u8 (48 + (d : Int))] 5)) := by
  refine run_string_of _ w.heap.size [UInt8.ofNat (48 + d)] ?_ 1 rfl
  unfold DRow
  rw [alloc_get w _ _ rfl]
  have : V (List.replicate 0 0 ++ [UInt8.ofNat (48 + d)]) = #[.int .u8 (48 + (d : Int))] := by
    unfold V; simp only [List.replicate_zero, List.nil_append, List.map_cons, List.map_nil]
    rw [dig_nat d hd]; rfl
  rw [this]

/-- What Num answers: a number's text, of at most so many digits, below 0 only where it is asked. -/
def NumR (most : Nat) (lo : Bool) (w : World) (e : Ending) (w' : World) : Prop :=
  ∃ s : ByteArray, e = .returned (.string s) ∧ Canon s.data.toList ∧ (strip s.data.toList).length ≤ most ∧ (lo = false → low s.data.toList = false) ∧ Below w.heap.size w w'

def NumInv (W : World) (most n : Nat) (sv iv : Value) (wr : World) : Prop :=
  ∃ (k : Nat) (S : ByteArray), k ≤ n ∧ iv = .int .i64 k ∧ sv = .string S ∧ NumS most S ∧ Below W.heap.size W wr

theorem NumS.low {most : Nat} {S : ByteArray} (h : NumS most S) : low S.data.toList = false := by
  unfold BigM.low
  cases hS : S.data.toList with
  | nil => rfl
  | cons a m =>
    have := h.2.1 a (by rw [hS]; simp)
    simp
    intro e; subst e; unfold isD at this; have h45 : (45 : UInt8).toNat = 45 := rfl; omega
theorem NumS.strip {most : Nat} {S : ByteArray} (h : NumS most S) : strip S.data.toList = S.data.toList := strip_high _ h.low
theorem NumS.canon {most : Nat} {S : ByteArray} (h : NumS most S) (hm : most ≤ 200) (h0 : S.size ≠ 0) : Canon S.data.toList := by
  unfold Canon
  rw [h.strip, ← Lib.size_eq]
  exact ⟨by omega, by have := h.1; omega, h.2.1, Or.inl h.2.2⟩
theorem NumS.neg {most : Nat} {S : ByteArray} (h : NumS most S) (hm : most ≤ 200) (h0 : S.size ≠ 0) : Canon (45 :: S.data.toList) ∧ BigM.strip (45 :: S.data.toList) = S.data.toList := by
  have hl : BigM.low (45 :: S.data.toList) = true := by simp [BigM.low]
  have hs : BigM.strip (45 :: S.data.toList) = S.data.toList := by rw [strip_low _ hl]; rfl
  refine ⟨?_, hs⟩
  unfold Canon
  rw [hs, ← Lib.size_eq]
  exact ⟨by omega, by have := h.1; omega, h.2.1, Or.inl h.2.2⟩

set_option maxHeartbeats 2000000 in
set_option maxRecDepth 100000 in
theorem num_some (x : Addr) (n cap most : Nat) (zs : List Int) (lo : Bool) (w : World) (hm : most ≤ 200) (hm1 : 1 ≤ most) (hn : n ≤ maxLen)
    (hc : ∀ k, k < n → w.cell? (x.add k) = some (.int .i64 (zs.getD k 0))) (hz : ∀ k, k < n → I64 (zs.getD k 0)) :
    Calls Tryd.prog 14 #[.slice (some x) n cap, .int .i64 most, .bool lo] w (NumR most lo w) := by
  unfold maxLen at hn
  have HC := Lib.hid hc
  have HZ := Lib.hid hz
  clear hc hz
  go_enter Tryd.func14, Tryd.ntmps14
  go_wp2
  go_loopw [7, 8] (fun sv iv wr => NumInv w most n sv iv wr) (fun _ iv _ => n - (intOf iv).toNat)
  case atStart => exact ⟨0, ⟨#[]⟩, Nat.zero_le _, rfl, rfl, NumS.nil _, Below.refl _ _⟩
  case round =>
    obtain ⟨k, S, hk, rfl, rfl, hS, hb⟩ := hrel
    have HB := Lib.hid hb
    have HS := Lib.hid hS
    have hSl : S.size ≤ most := hS.1
    clear hb hS
    by_cases hlt : k < n
    · by_cases hlen : S.size < most
      · have hcell : wr.cell? (x.add k) = some (.int .i64 (zs.getD k 0)) := by
          have h0 := HC.out k hlt
          rw [HB.out.cell (World.block_lt_of_cell? w _ h0)]; exact h0
        have HI := Lib.hid (HZ.out k hlt)
        obtain ⟨z, hzz⟩ : ∃ z, z = zs.getD k 0 := ⟨_, rfl⟩
        rw [← hzz] at hcell HI
        clear hzz
        go_wp2_with fail
        refine (within_some z 10 HI.out (by omega) (by omega) _).mono ?_
        rintro e w' ⟨d, hd, rfl, rfl⟩
        go_wp2_with fail
        refine (within_some _ 4 (I64_wrap _) (by omega) (by omega) _).mono ?_
        rintro e w' ⟨r2, hr2, rfl, rfl⟩
        by_cases h2 : r2 = 0
        · subst h2
          go_wp2_with fail
          refine (within_some _ 2 (I64_wrap _) (by omega) (by omega) _).mono ?_
          rintro e w' ⟨r3, hr3, rfl, rfl⟩
          obtain ⟨d3, hd3⟩ : ∃ d3, d3 = 9 * r3 := ⟨_, rfl⟩
          have hd3' : (9 : Int) * (r3 : Int) = ((d3 : Nat) : Int) := by rw [hd3]; omega
          have hdd : d3 < 10 := by omega
          clear hd3
          have hcv := conv_digit wr d3 hdd
          obtain ⟨cc, hcc⟩ : ∃ cc : UInt8, cc = UInt8.ofNat (48 + d3) := ⟨_, rfl⟩
          rw [← hcc] at hcv
          have HCC := Lib.hid hcc
          clear hcc
          by_cases hS0 : S.size = 0
          · obtain rfl : S = ⟨#[]⟩ := by
              apply ByteArray.ext; apply Array.ext'
              have := hS0; rw [Lib.size_eq] at this; simpa using List.length_eq_zero_iff.1 this
            by_cases hd0 : d3 = 0
            · rw [hd0] at hd3'
              clear hcv
              go_wp2_with fail
              go_roundw
              case rel => exact ⟨k + 1, ⟨#[]⟩, by omega, by go_num, rfl, HS.out, HB.out⟩
              case measure => simp [intOf]; omega
            · have HN : Hid (NumS most (⟨#[]⟩ ++ ⟨#[cc]⟩)) := by show NumS _ _; rw [HCC.out]; exact HS.out.put hlen d3 hdd (Or.inr hd0)
              have q2 : ((d3 : Int) == 0) = false := beq_eq_false_iff_ne.2 (by omega)
              clear hd0
              go_wp2_with fail
              go_roundw
              case rel => exact ⟨k + 1, _, by omega, by go_num, rfl, HN.out, HB.out.alloc HB.out.size _⟩
              case measure => simp [intOf]; omega
          · have q1 : S.toList.isEmpty = false := by
              rw [Lib.toList_data]; cases hd : S.data.toList with
              | nil => rw [Lib.size_eq, hd] at hS0; simp at hS0
              | cons a m => rfl
            have HN : Hid (NumS most (S ++ ⟨#[cc]⟩)) := by show NumS _ _; rw [HCC.out]; exact HS.out.put hlen d3 hdd (Or.inl hS0)
            clear hS0
            go_wp2_with fail
            go_roundw
            case rel => exact ⟨k + 1, _, by omega, by go_num, rfl, HN.out, HB.out.alloc HB.out.size _⟩
            case measure => simp [intOf]; omega
        · have q0 : ((r2 : Int) == 0) = false := beq_eq_false_iff_ne.2 (by omega)
          have hdd : d < 10 := hd
          have hcv := conv_digit wr d hdd
          obtain ⟨cc, hcc⟩ : ∃ cc : UInt8, cc = UInt8.ofNat (48 + d) := ⟨_, rfl⟩
          rw [← hcc] at hcv
          have HCC := Lib.hid hcc
          clear hcc
          clear h2
          by_cases hS0 : S.size = 0
          · obtain rfl : S = ⟨#[]⟩ := by
              apply ByteArray.ext; apply Array.ext'
              have := hS0; rw [Lib.size_eq] at this; simpa using List.length_eq_zero_iff.1 this
            by_cases hd0 : d = 0
            · subst hd0
              clear hcv
              go_wp2_with fail
              go_roundw
              case rel => exact ⟨k + 1, ⟨#[]⟩, by omega, by go_num, rfl, HS.out, HB.out⟩
              case measure => simp [intOf]; omega
            · have HN : Hid (NumS most (⟨#[]⟩ ++ ⟨#[cc]⟩)) := by show NumS _ _; rw [HCC.out]; exact HS.out.put hlen d hdd (Or.inr hd0)
              have q2 : ((d : Int) == 0) = false := beq_eq_false_iff_ne.2 (by omega)
              clear hd0
              go_wp2_with fail
              go_roundw
              case rel => exact ⟨k + 1, _, by omega, by go_num, rfl, HN.out, HB.out.alloc HB.out.size _⟩
              case measure => simp [intOf]; omega
          · have q1 : S.toList.isEmpty = false := by
              rw [Lib.toList_data]; cases hd : S.data.toList with
              | nil => rw [Lib.size_eq, hd] at hS0; simp at hS0
              | cons a m => rfl
            have HN : Hid (NumS most (S ++ ⟨#[cc]⟩)) := by show NumS _ _; rw [HCC.out]; exact HS.out.put hlen d hdd (Or.inl hS0)
            clear hS0
            go_wp2_with fail
            go_roundw
            case rel => exact ⟨k + 1, _, by omega, by go_num, rfl, HN.out, HB.out.alloc HB.out.size _⟩
            case measure => simp [intOf]; omega
      · by_cases hS0 : S.size = 0
        · obtain rfl : S = ⟨#[]⟩ := by
            apply ByteArray.ext; apply Array.ext'
            have := hS0; rw [Lib.size_eq] at this; simpa using List.length_eq_zero_iff.1 this
          exact absurd (show (⟨#[]⟩ : ByteArray).size < most from hm1) hlen
        · have q1 : S.toList.isEmpty = false := by
            rw [Lib.toList_data]; cases hd : S.data.toList with
            | nil => rw [Lib.size_eq, hd] at hS0; simp at hS0
            | cons a m => rfl
          have HC1 := Lib.hid (HS.out.canon hm hS0)
          have HC2 := Lib.hid (HS.out.neg hm hS0)
          clear hS0
          cases lo
          · go_wp2_with fail
            go_ret
            exact ⟨S, rfl, HC1.out, by rw [HS.out.strip, ← Lib.size_eq]; exact hSl, fun _ => HS.out.low, HB.out⟩
          · go_wp2_with fail
            go_ret
            exact ⟨⟨#[45]⟩ ++ S, rfl, by rw [neg_str]; exact HC2.out.1, by rw [neg_str]; show (BigM.strip (45 :: S.data.toList)).length ≤ _; rw [HC2.out.2, ← Lib.size_eq]; exact hSl, (fun h => by cases h), HB.out⟩
    · by_cases hS0 : S.size = 0
      · obtain rfl : S = ⟨#[]⟩ := by
          apply ByteArray.ext; apply Array.ext'
          have := hS0; rw [Lib.size_eq] at this; simpa using List.length_eq_zero_iff.1 this
        go_wp2_with fail
        go_ret
        exact ⟨⟨#[48]⟩, rfl, by decide, hm1, fun _ => rfl, HB.out⟩
      · have q1 : S.toList.isEmpty = false := by
          rw [Lib.toList_data]; cases hd : S.data.toList with
          | nil => rw [Lib.size_eq, hd] at hS0; simp at hS0
          | cons a m => rfl
        have HC1 := Lib.hid (HS.out.canon hm hS0)
        have HC2 := Lib.hid (HS.out.neg hm hS0)
        clear hS0
        cases lo
        · go_wp2_with fail
          go_ret
          exact ⟨S, rfl, HC1.out, by rw [HS.out.strip, ← Lib.size_eq]; exact hSl, fun _ => HS.out.low, HB.out⟩
        · go_wp2_with fail
          go_ret
          exact ⟨⟨#[45]⟩ ++ S, rfl, by rw [neg_str]; exact HC2.out.1, by rw [neg_str]; show (BigM.strip (45 :: S.data.toList)).length ≤ _; rw [HC2.out.2, ← Lib.size_eq]; exact hSl, (fun h => by cases h), HB.out⟩
end Go.Proofs.YtebadokchhnmfaaDoor
