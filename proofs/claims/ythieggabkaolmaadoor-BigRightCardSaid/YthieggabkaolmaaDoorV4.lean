/- The walk of BigRight: whatever the text, true. -/
import Derived.Test.YthieggabkaolmaaDoorU2
import Derived.Test.YthieggabkaolmaaDoorK1
import Derived.Test.YthieggabkaolmaaDoorX1r
import Derived.Laws.IdiomStrings
import Derived.Laws.BytesArg
import Derived.BigQuiet
import Derived.Deep.QuietTactic
namespace Go.Proofs.YthieggabkaolmaaDoor
open Go.RowKit Go.BigM
set_option linter.unusedVariables false

set_option maxRecDepth 100000 in
/-- What '[]byte(s)' has made. -/
theorem bytes_facts (w : World) (s : ByteArray) : ∃ (C : Nat) (W : World),
    (convert 9 25 (.string s)).run Tryd.prog w = .ok (.slice (some ⟨w.heap.size, 0, none⟩) s.size C) W ∧
    (∀ j (h : j < s.size), W.cell? ⟨w.heap.size, j, none⟩ = some (.int .u8 (s[j].toNat : Int))) ∧ (∀ j, j < s.size → W.frozen? ⟨w.heap.size, j, none⟩ = false) ∧ Below w.heap.size w W ∧ w.heap.size < W.heap.size := by
  refine ⟨_, _, run_bytes_of_string (P := Tryd.prog) w 9 25 5 s Tryd.underlying9 Tryd.underlying25 Tryd.underlying5, ?_, ?_, ?_, ?_⟩
  · intro j h
    generalize grownCap w s.size 0 5 = C
    have hb := bytesRow_at s C j h
    show ((w.drew.alloc _).cell? ⟨w.heap.size, j, none⟩) = _
    have hg : (w.drew.alloc (.cells (bytesRow s C) 5 ((bytesRow s C).size, (bytesRow s C).size + 1))).heap[w.heap.size]? = some (.cells (bytesRow s C) 5 ((bytesRow s C).size, (bytesRow s C).size + 1)) := alloc_get w.drew _ _ rfl
    rw [cell_of_row _ _ _ _ _ _ hg, hb]; rfl
  · intro j h
    generalize grownCap w s.size 0 5 = C
    have hg : (w.drew.alloc (.cells (bytesRow s C) 5 ((bytesRow s C).size, (bytesRow s C).size + 1))).heap[w.heap.size]? = some (.cells (bytesRow s C) 5 ((bytesRow s C).size, (bytesRow s C).size + 1)) := alloc_get w.drew _ _ rfl
    have hsz : s.size ≤ (bytesRow s C).size := by
      unfold bytesRow
      rw [Array.size_append, Array.size_map]
      exact Nat.le_add_right _ _
    unfold World.frozen?
    rw [hg]
    simp only [Bool.and_eq_false_iff, decide_eq_false_iff_not]
    left; omega
  · exact (Below.drew (Below.refl _ _)).alloc (Nat.le_refl _) _
  · show _ < (w.drew.heap.push _).size
    rw [Array.size_push]; exact Nat.lt_succ_self _

theorem back_string (W : World) (h C r : Nat) (v : Int) (s : ByteArray) (hc : ∀ j (hj : j < s.size), W.cell? ⟨h, j, none⟩ = some (.int .u8 (s[j].toNat : Int))) (hr : r < s.size) :
    ∃ S : ByteArray, S.size = s.size ∧ (convert 25 9 (.slice (some ⟨h, 0, none⟩) s.size C)).run Tryd.prog (W.setCell ⟨h, r, none⟩ (.int .u8 v)) = .ok (.string S) (W.setCell ⟨h, r, none⟩ (.int .u8 v)) := by
  let f : Nat → Int := fun j => if j = r then v else if hj : j < s.size then (s[j].toNat : Int) else 0
  refine ⟨strOfNums ((List.range s.size).map f), by rw [strOfNums_size]; simp, ?_⟩
  refine run_convert_bytes_arg (P := Tryd.prog) _ 25 5 Tryd.underlying25 Tryd.underlying5 h 0 s.size C ((List.range s.size).map f) (by simp) (fun i hi => ?_) 9 Tryd.underlying9
  rw [Nat.zero_add]
  have hg : ((List.range s.size).map f).getD i 0 = f i := by
    rw [List.getD_eq_getElem?_getD, List.getElem?_map, List.getElem?_range hi]; rfl
  rw [hg]
  by_cases e : i = r
  · subst e
    rw [World.cell?_setCell_same W _ _ (hc i hi)]
    simp [f]
  · rw [World.cell?_setCell_other W _ _ _ (fun e2 => e (by injection e2 with _ e2; exact e2.symm)), hc i hi]
    simp [f, e, hi]

set_option maxHeartbeats 8000000 in
set_option maxRecDepth 100000 in
theorem right_walk (a0 : Option Addr) (len0 cap0 : Nat) (z0 : List Int) (a1 : Bool) (a2 : ByteArray) (a3 : Int) (a4 : Int) (a5 : Int) (w : World) (w0 : IsRow .i64 w a0 len0 cap0 z0) (w2 : a2.size ≤ maxLen) (w3 : (Lit.int .i64 a3).wf = true) (w4 : (Lit.int .u8 a4).wf = true) (w5 : (Lit.int .i64 a5).wf = true) :
    Calls Tryd.prog 3 #[.slice a0 len0 cap0, .bool a1, .string a2, .int .i64 a3, .int .u8 a4, .int .i64 a5] w fun e w' => e = .returned (.bool true) ∧ Below w.heap.size w w' := by
  have R0 := Lib.hid w0
  have I3 := Lib.hid (wf_I64 a3 w3)
  have I5 := Lib.hid (wf_I64 a5 w5)
  have u4 : 0 ≤ a4 ∧ a4 ≤ 255 := by simpa [Lit.wf, IntKind.min, IntKind.max, IntKind.signed, IntKind.bits] using w4
  have BB := Lib.hid (Below.refl w.heap.size w)
  clear w0 w3 w4 w5 w2
  by_cases h300 : 300 < a2.size
  · have e0 : decide (300 < (a2.size : Int)) = true := decide_eq_true (by omega)
    clear h300
    go_enter Tryd.func3, Tryd.ntmps3
    go_wp2_with (go_at_call 13; refine (known_any _).mono ?_; rintro e w1 ⟨rfl, hb⟩; replace BB := Lib.hid (BB.out.trans (hb.mono BB.out.size)); clear hb)
    go_ret
    exact ⟨rfl, BB.out⟩
  · have e0 : decide (300 < (a2.size : Int)) = false := decide_eq_false (by omega)
    have hraw : a2.size ≤ 300 := by omega
    clear h300
    go_enter Tryd.func3, Tryd.ntmps3
    go_wp2_with (go_at_call 13; refine (known_any _).mono ?_; rintro e w1 ⟨rfl, hb⟩; replace BB := Lib.hid (BB.out.trans (hb.mono BB.out.size)); clear hb)
    refine (num_any a0 len0 cap0 60 z0 a1 _ (R0.out.below BB.out) (by decide) (by decide)).mono ?_
    rintro e wa ⟨s, rfl, ha, la, ka, hb⟩
    replace BB := Lib.hid (BB.out.trans (hb.mono BB.out.size))
    have HA := Lib.hid ha
    have hs1 : 1 ≤ s.size := by
      rw [Lib.size_eq]; have := ha.1; have h2 := strip_le s.data.toList; omega
    have hs2 : s.size ≤ 201 := canon_size s ha
    clear ha la ka hb
    obtain ⟨C, W1, hcv, hcell, hfree, hbel, hz⟩ := bytes_facts wa s
    have HC := Lib.hid hcell
    have HF := Lib.hid hfree
    have BB1 : Hid (Below w.heap.size w W1) := BB.out.trans (hbel.mono BB.out.size)
    clear hcell hfree hbel
    go_wp2_with fail
    refine (within_some a3 s.size I3.out (by omega) (by omega) _).mono ?_
    rintro e w' ⟨r, hr, rfl, rfl⟩
    have c1 := HC.out r hr
    have f1 := HF.out r hr
    have hx := (s[r]).toNat_lt
    obtain ⟨x, hxe⟩ : ∃ x : Nat, x = s[r].toNat := ⟨_, rfl⟩
    rw [← hxe] at c1 hx
    clear hxe hcv
    obtain ⟨S2, hS2, hcv2⟩ := back_string W1 wa.heap.size C r (((x : Int) + a4) % 256) s HC.out hr
    have BB2 : Hid (Below w.heap.size w (W1.setCell ⟨wa.heap.size, r, none⟩ (.int .u8 (((x : Int) + a4) % 256)))) := BB1.out.setCell (p := ⟨wa.heap.size, r, none⟩) BB.out.size _
    go_wp2_with fail
    generalize W1.setCell ⟨wa.heap.size, r, none⟩ (.int .u8 (((x : Int) + a4) % 256)) = W2 at hcv2 BB2 ⊢
    clear c1 f1 hx HC HF BB1 hz u4
    go_loop [15, 16] (fun sv iv => ∃ (i : Nat) (T : ByteArray), i ≤ 204 ∧ iv = .int .i64 i ∧ sv = .string T ∧ T.size ≤ 1 + i) (fun _ iv => 204 - (intOf iv).toNat)
    case atStart => exact ⟨0, ⟨#[49]⟩, by omega, rfl, rfl, by decide⟩
    case round =>
      obtain ⟨i, T, hi, rfl, rfl, hT⟩ := hrel
      go_wp2_with fail
      refine (within_some a5 10 I5.out (by omega) (by omega) _).mono ?_
      rintro e w' ⟨q, hq, rfl, rfl⟩
      by_cases hlt : i < 195 + q
      · have HN : Hid ((T ++ ⟨#[48]⟩ : ByteArray).size ≤ 1 + (i + 1)) := by show _ ≤ _; rw [ByteArray.size_append]; have : (⟨#[48]⟩ : ByteArray).size = 1 := rfl; omega
        have hi2 : i < 204 := by omega
        go_wp2_with fail
        go_round
        case rel => exact ⟨i + 1, _, by omega, by go_num, rfl, HN.out⟩
        case measure => simp [intOf]; omega
      · obtain ⟨t3, e3⟩ : ∃ t, (⟨#[48]⟩ ++ s : ByteArray) = t := ⟨_, rfl⟩
        obtain ⟨t4, e4⟩ : ∃ t, (⟨#[45]⟩ ++ s : ByteArray) = t := ⟨_, rfl⟩
        obtain ⟨t5, e5⟩ : ∃ t, (⟨#[43]⟩ ++ s : ByteArray) = t := ⟨_, rfl⟩
        obtain ⟨t6, e6⟩ : ∃ t, (s ++ ⟨#[32]⟩ : ByteArray) = t := ⟨_, rfl⟩
        obtain ⟨t7, e7⟩ : ∃ t, (⟨#[45]⟩ ++ T : ByteArray) = t := ⟨_, rfl⟩
        have z3 : t3.size ≤ 5000 := by rw [← e3, ByteArray.size_append]; have : (⟨#[48]⟩ : ByteArray).size = 1 := rfl; omega
        have z4 : t4.size ≤ 5000 := by rw [← e4, ByteArray.size_append]; have : (⟨#[45]⟩ : ByteArray).size = 1 := rfl; omega
        have z5 : t5.size ≤ 5000 := by rw [← e5, ByteArray.size_append]; have : (⟨#[43]⟩ : ByteArray).size = 1 := rfl; omega
        have z6 : t6.size ≤ 5000 := by rw [← e6, ByteArray.size_append]; have : (⟨#[32]⟩ : ByteArray).size = 1 := rfl; omega
        have z7 : t7.size ≤ 5000 := by rw [← e7, ByteArray.size_append]; have : (⟨#[45]⟩ : ByteArray).size = 1 := rfl; omega
        go_wp2_with fail
        obtain ⟨L, hL⟩ : ∃ L : List ByteArray, L = [s, S2, a2, t3, t4, t5, t6, ⟨#[]⟩, ⟨#[45]⟩, ⟨#[48, 48]⟩, T, t7] := ⟨_, rfl⟩
        have hLs : ∀ j, j < 12 → (L.getD j ByteArray.empty).size ≤ 5000 := by
          intro j hj
          have hall : ∀ y ∈ L, y.size ≤ 5000 := by
            rw [hL]; intro y hy
            simp only [List.mem_cons, List.not_mem_nil, or_false] at hy
            rcases hy with rfl | rfl | rfl | rfl | rfl | rfl | rfl | rfl | rfl | rfl | rfl | rfl <;> first | omega | decide
          rw [List.getD_eq_getElem?_getD]
          cases hg : L[j]? with
          | none => decide
          | some y => exact hall y (List.mem_of_getElem? hg)
        have hrow : ∀ j, j < 12 → (W2.alloc (.cells #[.string s, .string S2, .string a2, .string t3, .string t4, .string t5, .string t6, .string ⟨#[]⟩, .string ⟨#[45]⟩, .string ⟨#[48, 48]⟩, .string T, .string t7] 9)).cell? ⟨W2.heap.size, j, none⟩ = some (.string (L.getD j ByteArray.empty)) := by
          intro j hj
          rw [World.cell?_alloc_new, hL]
          match j, hj with
          | 0, _ => rfl
          | 1, _ => rfl
          | 2, _ => rfl
          | 3, _ => rfl
          | 4, _ => rfl
          | 5, _ => rfl
          | 6, _ => rfl
          | 7, _ => rfl
          | 8, _ => rfl
          | 9, _ => rfl
          | 10, _ => rfl
          | 11, _ => rfl
        have BB3 : Hid (Below w.heap.size w (W2.alloc (.cells #[.string s, .string S2, .string a2, .string t3, .string t4, .string t5, .string t6, .string ⟨#[]⟩, .string ⟨#[45]⟩, .string ⟨#[48, 48]⟩, .string T, .string t7] 9))) := BB2.out.alloc BB2.out.size _
        generalize W2.alloc (.cells #[.string s, .string S2, .string a2, .string t3, .string t4, .string t5, .string t6, .string ⟨#[]⟩, .string ⟨#[45]⟩, .string ⟨#[48, 48]⟩, .string T, .string t7] 9) = W3 at hrow BB3 ⊢
        have HROW := Lib.hid hrow
        have HLS := Lib.hid hLs
        clear hrow hLs hL e3 e4 e5 e6 e7 z3 z4 z5 z6 z7 hcv2 BB2 hlt hT
        go_loopw [18] (fun iv wr => ∃ j m : Nat, j ≤ 12 ∧ iv = .int .i64 j ∧ wr = W3.drewN m) (fun iv _ => 12 - (intOf iv).toNat)
        case atStart => exact ⟨0, 0, by omega, rfl, rfl⟩
        case round =>
          obtain ⟨j, m, hj, rfl, rfl⟩ := hrel
          by_cases hlt : j < 12
          · have hcell := HROW.out j hlt
            obtain ⟨y, hy⟩ : ∃ y, y = L.getD j ByteArray.empty := ⟨_, rfl⟩
            have hys := HLS.out j hlt
            rw [← hy] at hcell hys
            obtain ⟨wo, hwo⟩ : ∃ wo, wo = W3.drewN m := ⟨_, rfl⟩
            rw [← hwo]
            have hcell' : wo.cell? ⟨W2.heap.size, j, none⟩ = some (.string y) := by rw [hwo]; exact hcell
            have HWO := Lib.hid hwo
            clear hcell hwo
            obtain ⟨bb, hbb⟩ : ∃ bb, bb = decide (Canon y.data.toList) := ⟨_, rfl⟩
            have G1 := Lib.hid (fun w => right_any y w hys)
            have G2 := Lib.hid (fun w => refRight_any y w hys)
            rw [← hbb] at G1 G2
            have hj0 : (0 : Int) ≤ (j : Int) := by omega
            have hj12 : (j : Int) < 12 := by omega
            clear hy hbb
            go_wp2_with fail
            go_quiet ((first | (go_at_call 16; exact Calls.quiet_of_same ((G1.out _).mono fun _ _ h => ⟨h.1, h.2.symm⟩)) | (go_at_call 17; exact Calls.quiet_of_same ((G2.out _).mono fun _ _ h => ⟨h.1, h.2.symm⟩))))
            go_wp2_with fail
            go_roundw
            case rel => exact ⟨j + 1, m + nq, by omega, by go_num, by rw [HWO.out, World.drewN_drewN]⟩
            case measure => simp [intOf]; omega
          · obtain rfl : j = 12 := by omega
            clear hlt
            have BB4 := Lib.hid (below_drewN BB3.out m)
            go_wp2_with fail
            refine (right_yes s HA.out _ (by omega)).mono ?_
            rintro e w' ⟨rfl, rfl⟩
            go_wp2_with fail
            go_ret
            exact ⟨rfl, BB4.out⟩
end Go.Proofs.YthieggabkaolmaaDoor
