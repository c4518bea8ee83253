/- The walk of ReadDeep. -/
import Derived.Test.YtkjcbaikebdmmaaDoorRD
namespace Go.Proofs.YtkjcbaikebdmmaaDoor
open Go.RowKit Go.BigM
set_option linter.unusedVariables false
set_option linter.unusedSimpArgs false
theorem row_get {w w' : World} {a : Option Addr} {len cap : Nat} {zs : List Int} (h : IsRow .i64 w a len cap zs) (hb : Below w.heap.size w w') {j : Nat} (hj : j < len) : ∃ x z, a = some x ∧ w'.cell? (x.add j) = some (.int .i64 z) ∧ I64 z := by
  rcases h with ⟨rfl, rfl, rfl, rfl⟩ | ⟨x, rfl, h1, h2, h3, h4, h5⟩
  · omega
  · refine ⟨x, zs.getD j 0, rfl, ?_, ?_⟩
    · rw [hb.cell (World.block_lt_of_cell? w _ (h4 j (by omega)))]; exact h4 j (by omega)
    · have hm : zs.getD j 0 ∈ zs := by
        rw [List.getD_eq_getElem?_getD, List.getElem?_eq_getElem (by omega)]; exact List.getElem_mem _
      exact wf_I64 _ (h5 _ hm)
/-- The loop that writes brackets and quotes. -/
def DpInv (n : Nat) (w : World) (sv tv iv : Value) (wr : World) : Prop :=
  ∃ (qs : List Bool) (S T : ByteArray), qs.length ≤ n ∧ sv = .string S ∧ tv = .string T ∧ iv = .int .i64 qs.length ∧ S = ⟨(preT qs).toArray⟩ ∧ T = ⟨(List.replicate (cntF qs) 41).toArray⟩ ∧ Below w.heap.size w wr
theorem dp_quote {n : Nat} {w wr : World} {qs : List Bool} {S T : ByteArray} {j : Nat} (hj : qs.length = j) (hn : j < n) (hS : S = ⟨(preT qs).toArray⟩) (hT : T = ⟨(List.replicate (cntF qs) 41).toArray⟩) (hb : Below w.heap.size w wr) :
    DpInv n w (.string (S ++ ⟨#[39]⟩)) (.string T) (.int .i64 ((j : Int) + 1)) wr := by
  refine ⟨qs ++ [true], _, _, by simp; omega, rfl, rfl, by simp; omega, ?_, ?_, hb⟩
  · rw [hS, str_app1, pre_snoc]; rfl
  · rw [hT, cnt_snoc]; rfl
theorem dp_list {n : Nat} {w wr : World} {qs : List Bool} {S T : ByteArray} {j : Nat} (hj : qs.length = j) (hn : j < n) (hS : S = ⟨(preT qs).toArray⟩) (hT : T = ⟨(List.replicate (cntF qs) 41).toArray⟩) (hb : Below w.heap.size w wr) :
    DpInv n w (.string (S ++ ⟨#[40]⟩)) (.string (⟨#[41]⟩ ++ T)) (.int .i64 ((j : Int) + 1)) wr := by
  refine ⟨qs ++ [false], _, _, by simp; omega, rfl, rfl, by simp; omega, ?_, ?_, hb⟩
  · rw [hS, str_app1, pre_snoc]; rfl
  · rw [hT, cnt_snoc]
    rw [show (⟨#[41]⟩ : ByteArray) = ⟨([41] : List UInt8).toArray⟩ from rfl, str_app]
    simp [List.replicate_succ]
set_option maxHeartbeats 4000000 in
set_option maxRecDepth 100000 in
theorem deep_walk (a : Int) (ao : Option Addr) (len cap : Nat) (zs : List Int) (w : World) (ha : I64 a) (hz : IsRow .i64 w ao len cap zs) : Calls Tryd.prog 5 #[.int .i64 a, .slice ao len cap] w (RetBool true w) := by
  have BB := Lib.hid (Below.refl w.heap.size w)
  obtain ⟨n, hn⟩ : ∃ q : Nat, a % 70 = q := ⟨(a % 70).toNat, by omega⟩
  have hn70 : n < 70 := by omega
  have FW := Lib.hid (fun w => (within_any a 70 w ha.1 ha.2 (by omega) (by omega)))
  rw [hn] at FW
  have HZ := Lib.hid hz
  have hlen : len ≤ 9223372036854775807 := by rcases hz with ⟨_, h, _⟩ | ⟨_, _, h1, h2, _⟩ <;> unfold maxLen at * <;> omega
  have HL := Lib.hid hlen
  clear hn ha hz hlen
  go_enter Tryd.func5, Tryd.ntmps5
  go_wp2_with (go_at_call 13; refine (known_any _).mono ?_; rintro e w1 ⟨rfl, hb⟩; replace BB := Lib.hid (BB.out.trans (hb.mono BB.out.size)); clear hb)
  refine (FW.out _).mono ?_
  rintro e w2 ⟨rfl, rfl⟩
  go_wp2_with fail
  go_loopw [5, 6, 7] (fun sv tv iv wr => DpInv n w sv tv iv wr) (fun _ _ iv _ => n - (intOf iv).toNat)
  case atStart => exact ⟨[], _, _, Nat.zero_le _, rfl, rfl, rfl, rfl, rfl, BB.out⟩
  case round =>
    obtain ⟨qs, S, T, hj, rfl, rfl, rfl, hS, hT, hb⟩ := hrel
    obtain ⟨j, hqj⟩ : ∃ j, qs.length = j := ⟨_, rfl⟩
    rw [hqj] at hj
    have sS : S.size ≤ 70 := by rw [hS, Lib.size_eq]; simp [pre_len]; omega
    have sT : T.size ≤ 70 := by rw [hT, Lib.size_eq]; have := cnt_le qs; simp; omega
    have HB := Lib.hid hb
    simp only [hqj]
    have HS := Lib.hid hS
    have HT := Lib.hid hT
    have HQ := Lib.hid hqj
    clear hb hS hT hqj
    by_cases hlt : j < n
    · have q1 : decide ((j : Int) < (n : Int)) = true := decide_eq_true (by omega)
      have RQ := Lib.hid (dp_quote HQ.out hlt HS.out HT.out HB.out)
      have RL := Lib.hid (dp_list HQ.out hlt HS.out HT.out HB.out)
      by_cases hl2 : j < len
      · obtain ⟨x, z, rfl, hc, hz⟩ := row_get HZ.out HB.out hl2
        have q2 : decide ((j : Int) < (len : Int)) = true := decide_eq_true (by omega)
        have F3 := Lib.hid (fun w => (within_any z 3 w hz.1 hz.2 (by omega) (by omega)))
        by_cases h0 : z % 3 = 0
        · rw [h0] at F3
          go_wp2_with fail
          refine (F3.out _).mono ?_
          rintro e w3 ⟨rfl, rfl⟩
          go_wp2_with fail
          go_roundw
          case rel => exact RQ.out
          case measure => simp [intOf]; omega
        · have q3 : (z % 3 == 0) = false := by rw [beq_eq_false_iff_ne]; exact h0
          obtain ⟨y, hy⟩ : ∃ y, z % 3 = y := ⟨_, rfl⟩
          rw [hy] at F3 q3
          clear hy h0
          go_wp2_with fail
          refine (F3.out _).mono ?_
          rintro e w3 ⟨rfl, rfl⟩
          go_wp2_with fail
          go_roundw
          case rel => exact RL.out
          case measure => simp [intOf]; omega
      · have q2 : decide ((j : Int) < (len : Int)) = false := decide_eq_false (by omega)
        have F3 := Lib.hid (fun w => (within_any (j : Int) 3 w (by omega) (by omega) (by omega) (by omega)))
        by_cases h0 : (j : Int) % 3 = 0
        · rw [h0] at F3
          go_wp2_with fail
          refine (F3.out _).mono ?_
          rintro e w3 ⟨rfl, rfl⟩
          go_wp2_with fail
          go_roundw
          case rel => exact RQ.out
          case measure => simp [intOf]; omega
        · have q3 : ((j : Int) % 3 == 0) = false := by rw [beq_eq_false_iff_ne]; exact h0
          obtain ⟨y, hy⟩ : ∃ y, (j : Int) % 3 = y := ⟨_, rfl⟩
          rw [hy] at F3 q3
          clear hy h0
          go_wp2_with fail
          refine (F3.out _).mono ?_
          rintro e w3 ⟨rfl, rfl⟩
          go_wp2_with fail
          go_roundw
          case rel => exact RL.out
          case measure => simp [intOf]; omega
    · obtain rfl : j = n := by omega
      have q1 : decide ((j : Int) < (j : Int)) = false := decide_eq_false (by omega)
      obtain ⟨X, hX⟩ : ∃ X : ByteArray, S ++ ⟨#[97]⟩ ++ T = X := ⟨_, rfl⟩
      have hXl : X.data.toList = preT qs ++ ([97] ++ List.replicate (cntF qs) 41) := by
        rw [← hX, HS.out, HT.out, str_app1, str_app]; simp
      have hXs : X.size ≤ 8000 := by
        have h1 := cnt_le qs
        have h2 := HQ.out
        rw [Lib.size_eq, hXl]; simp [pre_len]; omega
      have HX := Lib.hid hXl
      clear hXl HZ
      by_cases h60 : 60 < j
      · obtain ⟨m, hm⟩ := rd_deep qs (by rw [HQ.out]; exact h60) ([97] ++ List.replicate (cntF qs) 41)
        have FR := Lib.hid (read_any X wr hXs m _ (by rw [HX.out]; exact hm))
        have q2 : decide ((60 : Int) < (j : Int)) = true := decide_eq_true (by omega)
        clear hm hXs
        go_wp2_with fail
        refine FR.out.mono ?_
        rintro e w3 ⟨hb3, rfl⟩
        have HB2 := Lib.hid (HB.out.trans (hb3.mono HB.out.size))
        clear hb3
        go_wp2_with fail
        go_ret
        exact ⟨rfl, HB2.out⟩
      · obtain ⟨m, hm⟩ := rd_nest qs (by rw [HQ.out]; omega)
        have FR := Lib.hid (read_any X wr hXs m _ (by rw [HX.out, nest_text]; exact hm))
        have q2 : decide ((60 : Int) < (j : Int)) = false := decide_eq_false (by omega)
        clear hm hXs
        go_wp2_with fail
        refine FR.out.mono ?_
        rintro e w3 ⟨hb3, v, rfl, hv⟩
        have HB2 := Lib.hid (HB.out.trans (hb3.mono HB.out.size))
        obtain ⟨o1, c1, rfl⟩ := hv.form
        clear hb3 hv
        simp only [List.length_cons, List.length_nil]
        go_wp2_with fail
        go_ret
        exact ⟨rfl, HB2.out⟩
end Go.Proofs.YtkjcbaikebdmmaaDoor
