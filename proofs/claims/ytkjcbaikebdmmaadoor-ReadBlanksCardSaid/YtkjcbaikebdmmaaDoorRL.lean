/- Rows of bytes; the walk of ReadLong. -/
import Derived.Test.YtkjcbaikebdmmaaDoorJ19
import Derived.Test.YtkjcbaikebdmmaaDoorW9
import Derived.Laws.MakeOwn
import Derived.Laws.BytesArg
namespace Go.Proofs.YtkjcbaikebdmmaaDoor
open Go.RowKit Go.BigM
set_option linter.unusedVariables false
set_option linter.unusedSimpArgs false
/-- Bytes as cells. -/
def V (l : List UInt8) : Array Value := (l.map fun (c : UInt8) => Value.int .u8 (c.toNat : Int)).toArray
theorem V_size (l : List UInt8) : (V l).size = l.length := by simp [V]
theorem V_get (l : List UInt8) (j : Nat) (h : j < l.length) : (V l)[j]? = some (.int .u8 ((l[j]).toNat : Int)) := by
  unfold V
  rw [List.getElem?_toArray, List.getElem?_map, List.getElem?_eq_getElem h]; rfl
theorem V_set (l : List UInt8) (j : Nat) (c : UInt8) : (V l).setIfInBounds j (.int .u8 (c.toNat : Int)) = V (l.set j c) := by
  unfold V
  rw [List.setIfInBounds_toArray, ← List.map_set]
theorem made_V (n : Nat) : madeCells (Value.int .u8 0).cells n = V (List.replicate n 0) := by
  apply Array.ext
  · rw [size_madeCells, V_size, List.length_replicate]
  · intro i h1 h2
    simp [madeCells, V, Value.cells, Nat.mod_one]
theorem info5 : ∃ i, Tryd.prog.info? 5 = some i ∧ i.zero = some (.int .u8 0) ∧ i.size = 1 ∧ i.bytes = 1 := by
  have h : (Tryd.prog.info? 5).map (fun i => (i.zero, i.size, i.bytes)) = some (some (.int .u8 0), 1, 1) := by kernel_rfl
  cases hi : Tryd.prog.info? 5 with
  | none => rw [hi] at h; simp at h
  | some i => rw [hi] at h; simp at h; exact ⟨i, rfl, h.1, h.2.1, h.2.2⟩
theorem run_make_bytes (n : Nat) (hn : n ≤ 9000) (w : World) :
    (Instr.makeSlice 44 (.int .i64 n) (.int .i64 n)).run Tryd.prog w = .ok (.slice (some ⟨w.heap.size, 0, none⟩) n n) (w.alloc (.cells (V (List.replicate n 0)) 5)) := by
  obtain ⟨i, hi, hz, h1, h2⟩ := info5
  have := run_make (P := Tryd.prog) w 44 5 i (.int .u8 0) Tryd.underlying44 hi hz .i64 .i64 n n (by omega) (Int.le_refl _) (by rw [h2]; omega) (by omega)
  rw [h1, Nat.mul_one, made_V, Int.toNat_natCast] at this
  exact this
theorem str_nums (D : List UInt8) : strOfNums (D.map fun c => (c.toNat : Int)) = ⟨D.toArray⟩ := by
  unfold strOfNums
  rw [List.map_map]
  have : ((fun n : Int => UInt8.ofNat n.toNat) ∘ fun c : UInt8 => (c.toNat : Int)) = id := by
    funext c; simp
  rw [this, List.map_id]
theorem run_string_of (w : World) (h : Nat) (D : List UInt8) (k : w.heap[h]? = some (.cells (V D) 5 (0, 0))) (n : Nat) (hn : D.length = n) :
    (convert 44 9 (.slice (some ⟨h, 0, none⟩) n n)).run Tryd.prog w = .ok (.string ⟨D.toArray⟩) w := by
  have := run_convert_bytes_arg (P := Tryd.prog) w 44 5 Tryd.underlying44 Tryd.underlying5 h 0 n n (D.map fun c => (c.toNat : Int)) (by simpa using hn) (fun i hi => by
    rw [Nat.zero_add, cell_of_row w h i _ _ _ k]
    have hi' : i < D.length := by omega
    rw [V_get _ i hi']
    rw [List.getD_eq_getElem?_getD, List.getElem?_map, List.getElem?_eq_getElem hi']; rfl) 9 Tryd.underlying9
  rw [str_nums] at this
  exact this
set_option maxRecDepth 100000 in
theorem read_long (s : ByteArray) (w : World) (hs : 8000 < s.size) (hs2 : s.size ≤ 100000) : Calls Tryd.prog 16 #[.string s] w (RetRead w (.err 2 0)) := by
  have q1 : decide ((8000 : Int) < (s.size : Int)) = true := decide_eq_true (by omega)
  go_enter Tryd.func16, Tryd.ntmps16
  go_wp2_with fail
  refine wp_scope_fuel2 (fun _ _ _ _ => False) 5 (fun _ _ _ h => h.elim) (fun _ _ _ _ _ _ h => h.elim) (fun _ => ?_)
  go_wp2_with fail
  change bodyPost _ _ _ Exit.ret _ _
  go_ret3
  exact ⟨Below.refl _ _, rfl⟩
/-- The text of ReadLong. -/
def longT (k : Nat) : List UInt8 := List.replicate (k - 1) 32 ++ [120]
theorem gap_rep : ∀ (n : Nat), Gap (List.replicate n 32)
  | 0 => Gap.nil
  | n + 1 => by
    rw [List.replicate_succ]
    exact Gap.append (a := [32]) (Gap.blank (by simp)) (gap_rep n)
theorem leaf_x : Leaf [120] 3 ⟨#[120]⟩ := leaf_word (by decide) (by decide) (by kernel_rfl)
theorem rd_long (k : Nat) (hk : 1 ≤ k) : ∃ n, rd (longT k) n .next 0 ⟨0, false, []⟩ [] = some (.ok [.mk 3 ⟨#[120]⟩ [] [] ((k - 1 : Nat) : Int)]) := by
  refine rd_wrs (l := [.mk 3 ⟨#[120]⟩ [] [] ((k - 1 : Nat) : Int)]) ?_ (by simp [Dt.deps, Dt.dep])
  have h := Wrs.cons (p := 0) (l := []) (g := List.replicate (k - 1) 32) (t := [120]) (b := []) (gap_rep _) (.leaf (p := 0 + (List.replicate (k - 1) (32 : UInt8)).length) leaf_x) (.nil Gap.nil) NoSign.nil
  simp only [List.length_replicate, Nat.zero_add, List.append_nil] at h
  exact h
/-- The loop that writes blanks. -/
def LgInv (k : Nat) (w : World) (g : Nat) (iv : Value) (wr : World) : Prop :=
  ∃ j : Nat, j ≤ k ∧ iv = .int .i64 j ∧ Below w.heap.size w wr ∧ wr.heap[g]? = some (.cells (V (List.replicate j 32 ++ List.replicate (k - j) 0)) 5 (0, 0))
theorem lg_step {k : Nat} {w : World} {g j : Nat} {wr : World} (hj : j < k) (hg : w.heap.size ≤ g) (hb : Below w.heap.size w wr) (h : wr.heap[g]? = some (.cells (V (List.replicate j 32 ++ List.replicate (k - j) 0)) 5 (0, 0))) :
    LgInv k w g (.int .i64 ((j : Int) + 1)) (wr.setCell ⟨g, j, none⟩ (.int .u8 32)) := by
  refine ⟨j + 1, by omega, by go_num, hb.setCell (p := ⟨g, j, none⟩) hg _, ?_⟩
  have h1 := heap_setCell_same wr g j _ 5 (.int .u8 ((32 : UInt8).toNat : Int)) h
  rw [V_set] at h1
  have e : (List.replicate j (32 : UInt8) ++ List.replicate (k - j) 0).set j 32 = List.replicate (j + 1) 32 ++ List.replicate (k - (j + 1)) 0 := by
    rw [List.set_append_right _ _ (by simp), List.length_replicate, Nat.sub_self, show k - j = (k - (j + 1)) + 1 by omega, List.replicate_succ (n := k - (j + 1)), List.set_cons_zero, List.replicate_succ' (n := j), List.append_assoc]
    rfl
  rw [e] at h1
  exact h1
theorem lg_end {k : Nat} {g : Nat} {wr : World} (hk : 1 ≤ k) (h : wr.heap[g]? = some (.cells (V (List.replicate k 32 ++ List.replicate (k - k) 0)) 5 (0, 0))) :
    (wr.setCell ⟨g, k - 1, none⟩ (.int .u8 120)).heap[g]? = some (.cells (V (longT k)) 5 (0, 0)) := by
  have h1 := heap_setCell_same wr g (k - 1) _ 5 (.int .u8 ((120 : UInt8).toNat : Int)) h
  rw [V_set] at h1
  have e : (List.replicate k (32 : UInt8) ++ List.replicate (k - k) 0).set (k - 1) 120 = longT k := by
    obtain ⟨m, rfl⟩ : ∃ m, k = m + 1 := ⟨k - 1, by omega⟩
    rw [Nat.sub_self, List.replicate_zero, List.append_nil, Nat.add_sub_cancel, List.replicate_succ', List.set_append_right _ _ (by simp)]
    simp [longT]
  rw [e] at h1
  exact h1
theorem longT_len (k : Nat) (hk : 1 ≤ k) : (longT k).length = k := by simp [longT]; omega
set_option maxHeartbeats 4000000 in
set_option maxRecDepth 100000 in
theorem long_walk (a : Int) (w : World) (ha : I64 a) : Calls Tryd.prog 8 #[.int .i64 a] w (RetBool true w) := by
  have BB := Lib.hid (Below.refl w.heap.size w)
  obtain ⟨q, hq⟩ : ∃ q : Nat, a % 20 = q := ⟨(a % 20).toNat, by omega⟩
  have hq20 : q < 20 := by omega
  have FW := Lib.hid (fun w => (within_any a 20 w ha.1 ha.2 (by omega) (by omega)))
  rw [hq] at FW
  obtain ⟨k, hk⟩ : ∃ k, k = 7990 + q := ⟨_, rfl⟩
  have hkq : ((7990 : Int) + (q : Int)) = (k : Int) := by omega
  have hk1 : 7990 ≤ k := by omega
  have hk2 : k < 8010 := by omega
  clear hq ha hk
  go_enter Tryd.func8, Tryd.ntmps8
  go_wp2_with (go_at_call 13; refine (known_any _).mono ?_; rintro e w1 ⟨rfl, hb⟩; replace BB := Lib.hid (BB.out.trans (hb.mono BB.out.size)); clear hb)
  refine (FW.out _).mono ?_
  rintro e w2 ⟨rfl, rfl⟩
  have hmk := run_make_bytes k (by omega)
  go_wp2_with fail
  have hw0 : LgInv k w1 w1.heap.size (.int .i64 0) (w1.alloc (.cells (V (List.replicate k 0)) 5)) := ⟨0, Nat.zero_le _, rfl, (Below.refl _ _).alloc (Nat.le_refl _) _, by simpa using alloc_at w1 (.cells (V (List.replicate k 0)) 5)⟩
  have HW0 := Lib.hid hw0
  clear hw0 hmk
  generalize w1.alloc (.cells (V (List.replicate k 0)) 5) = W0 at HW0 ⊢
  go_loopw [5] (fun iv wr => LgInv k w1 w1.heap.size iv wr) (fun iv _ => k - (intOf iv).toNat)
  case atStart => exact HW0.out
  case round =>
    obtain ⟨j, hj, rfl, hb, hg⟩ := hrel
    have HB := Lib.hid hb
    have HG := Lib.hid hg
    clear hb hg HW0
    by_cases hlt : j < k
    · have q1 : decide ((j : Int) < (k : Int)) = true := decide_eq_true (by omega)
      obtain ⟨x, hc⟩ : ∃ x, wr.cell? ⟨w1.heap.size, j, none⟩ = some x := by
        rw [Lib.cell_of_heap HG.out, V_get _ j (by simp; omega)]; exact ⟨_, rfl⟩
      have hf := frozen_of_row wr w1.heap.size j _ 5 HG.out
      go_wp2_with fail
      go_roundw
      case rel => exact lg_step hlt (Nat.le_refl _) HB.out HG.out
      case measure => simp [intOf]; omega
    · obtain rfl : j = k := by omega
      have q1 : decide ((j : Int) < (j : Int)) = false := decide_eq_false (by omega)
      have e1 : ((j : Int) - 1) = ((j - 1 : Nat) : Int) := by omega
      obtain ⟨x, hc⟩ : ∃ x, wr.cell? ⟨w1.heap.size, j - 1, none⟩ = some x := by
        rw [Lib.cell_of_heap HG.out, V_get _ (j - 1) (by simp; omega)]; exact ⟨_, rfl⟩
      have hf := frozen_of_row wr w1.heap.size (j - 1) _ 5 HG.out
      have hE := lg_end (by omega) HG.out
      have hB2 : Below w1.heap.size w1 (wr.setCell ⟨w1.heap.size, j - 1, none⟩ (.int .u8 120)) := HB.out.setCell (p := ⟨w1.heap.size, j - 1, none⟩) (Nat.le_refl _) _
      have HCV := Lib.hid (run_string_of _ _ _ hE j (longT_len j (by omega)))
      have HB2 := Lib.hid (BB.out.trans (hB2.mono BB.out.size))
      obtain ⟨i, hi⟩ : ∃ i, i = j - 1 := ⟨_, rfl⟩
      have hij : i + 1 = j := by omega
      rw [← hi] at e1 hc hf HCV HB2
      clear hE hB2 HG HB hi
      go_upto_region 10 with fail
      have hcv := HCV.out
      generalize wr.setCell ⟨w1.heap.size, i, none⟩ (.int .u8 120) = W9 at hcv HB2 HCV ⊢
      clear HCV
      have hsz : (⟨(longT j).toArray⟩ : ByteArray).size = j := by rw [Lib.size_eq]; simpa using longT_len j (by omega)
      by_cases hl : 8000 < j
      · have q2 : decide ((8000 : Int) < (j : Int)) = true := decide_eq_true (by omega)
        have FR := Lib.hid (read_long ⟨(longT j).toArray⟩ W9 (by omega) (by omega))
        go_wp2_with fail
        refine FR.out.mono ?_
        rintro e w3 ⟨hb3, rfl⟩
        replace HB2 := Lib.hid (HB2.out.trans (hb3.mono HB2.out.size))
        clear hb3 hcv
        go_wp2_with fail
        go_ret
        exact ⟨rfl, HB2.out⟩
      · have q2 : decide ((8000 : Int) < (j : Int)) = false := decide_eq_false (by omega)
        obtain ⟨n, hn⟩ := rd_long j (by omega)
        have FR := Lib.hid (read_any ⟨(longT j).toArray⟩ W9 (by omega) n _ (by simpa using hn))
        go_wp2_with fail
        refine FR.out.mono ?_
        rintro e w3 ⟨hb3, v, rfl, hv⟩
        replace HB2 := Lib.hid (HB2.out.trans (hb3.mono HB2.out.size))
        obtain ⟨g, o, cap, rfl⟩ := hv.some (by simp)
        obtain ⟨k5, t5, mv5, lv5, p5, ha, a0, a1, a2, a3, a4⟩ := hv.at 0 (by simp)
        have ha' : Dt.At _ w3 (.mk 3 ⟨#[120]⟩ [] [] ((j - 1 : Nat) : Int)) _ := ha
        rw [At_mk] at ha'
        obtain ⟨mv6, lv6, e6, _, _⟩ := ha'
        simp at e6
        obtain ⟨_, _, _, _, rfl⟩ := e6
        simp only [Nat.zero_mul, Nat.add_zero] at a4
        have e7 : ((j - 1 : Nat) : Int) = (i : Int) := by omega
        rw [e7] at a4
        clear ha a0 a1 a2 a3 hv hb3 hn hcv
        simp only [List.length_cons, List.length_nil]
        go_wp2_with fail
        go_ret
        exact ⟨rfl, HB2.out⟩
end Go.Proofs.YtkjcbaikebdmmaaDoor
