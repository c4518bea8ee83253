/- The document's Without, Texts. -/
import Derived.Test.YtmcgocbkjdacaaaDoorFR4
import Derived.Test.YtmcgocbkjdacaaaDoorTX4
namespace Go.Proofs.YtmcgocbkjdacaaaDoor
open Go.RowKit
set_option linter.unusedVariables false
set_option linter.unusedSimpArgs false
def wo (l names : List ByteArray) : List ByteArray := l.filter fun x => !decide (x ∈ names)
theorem wo_srt {l names : List ByteArray} (h : Srt l) : Srt (wo l names) := h.sublist (List.filter_sublist)
theorem wo_mem {l names : List ByteArray} {s : ByteArray} : s ∈ wo l names ↔ s ∈ l ∧ s ∉ names := by unfold wo; simp
theorem wo_len (l names : List ByteArray) : (wo l names).length ≤ l.length := List.length_filter_le _ _
theorem wo_snoc (l names : List ByteArray) (x : ByteArray) : wo (l ++ [x]) names = wo l names ++ (if x ∈ names then [] else [x]) := by
  unfold wo; rw [List.filter_append]; congr 1
  by_cases h : x ∈ names <;> simp [h]
def WoInv (l names : List ByteArray) (w : World) (ov iv : Value) (wr : World) : Prop :=
  ∃ j : Nat, j ≤ l.length ∧ iv = .int .i64 (j : Int) ∧ OwnN w.heap.size wr ov (wo (l.take j) names) ∧ Below w.heap.size w wr
def RetWo (l names : List ByteArray) (w : World) (r : Ending) (w' : World) : Prop :=
  ∃ v, r = .returned v ∧ OwnN w.heap.size w' v (wo l names) ∧ Below w.heap.size w w'
set_option maxHeartbeats 4000000 in
set_option maxRecDepth 100000 in
theorem without_any (l names : List ByteArray) (S T : Nat → Prop) (lv nv : Value) (w : World) (h : NAt S w lv l) (hn : NAt T w nv names) (hl : l.length ≤ 50000) (hnl : names.length ≤ 1000) : Calls Tryd.prog 43 #[lv, nv] w (RetWo l names w) := by
  obtain ⟨lo, lc, rfl⟩ := h.form
  obtain ⟨no, nc, rfl⟩ := hn.form
  have HL := Lib.hid h
  have HN := Lib.hid hn
  clear h hn
  go_enter Tryd.func43, Tryd.ntmps43
  go_wp2_with fail
  go_loopw [5, 6] (fun ov iv wr => WoInv l names w ov iv wr) (fun _ iv _ => l.length - (intOf iv).toNat)
  case atStart => exact ⟨0, Nat.zero_le _, rfl, by simpa [wo] using OwnN.nil _ _, Below.refl _ _⟩
  case round =>
    obtain ⟨j, hj, rfl, hown, hb⟩ := hrel
    have HO := Lib.hid hown
    have HB := Lib.hid hb
    have HLJ := Lib.hid (HL.out.keeps (Keeps.of_below hb))
    have HNJ := Lib.hid (HN.out.keeps (Keeps.of_below hb))
    obtain ⟨oo, oc, rfl⟩ := own_form hown
    clear hb hown
    by_cases hlt : j < l.length
    · have q1 : decide ((j : Int) < (l.length : Int)) = true := decide_eq_true (by omega)
      obtain ⟨g, o, rfl, -, e0⟩ := HLJ.out.get j hlt
      have htk : l.take (j + 1) = l.take j ++ [l[j]] := List.take_succ_eq_append_getElem hlt
      obtain ⟨x, hx⟩ : ∃ x, x = l[j] := ⟨_, rfl⟩
      rw [← hx] at e0 htk
      have hwl := wo_len (l.take j) names
      rw [List.length_take] at hwl
      have HIN := Lib.hid (in_any x names T _ wr HNJ.out (by omega))
      by_cases hin : x ∈ names
      · rw [decide_eq_true hin] at HIN
        have HNX : Hid (WoInv l names w (.slice oo (wo (l.take j) names).length oc) (.int .i64 ((j : Int) + 1)) wr) := ⟨j + 1, by omega, by go_num, by rw [htk, wo_snoc, if_pos hin, List.append_nil]; exact HO.out, HB.out⟩
        clear hx htk hwl HLJ HNJ HO
        go_wp2_with fail
        refine HIN.out.mono ?_
        rintro e w' ⟨rfl, rfl⟩
        go_wp2_with fail
        go_roundw
        case rel => exact HNX.out
        case measure => simp [intOf]; omega
      · rw [decide_eq_false hin] at HIN
        have A6 := Lib.hid ((Below.refl wr.heap.size wr).alloc (Nat.le_refl _) (.cells #[.string x] 9))
        have HO6 := Lib.hid (HO.out.below A6.out)
        have HC6 : Hid ((wr.alloc (.cells #[.string x] 9)).cell? ⟨wr.heap.size, 0, none⟩ = some (.string x)) := by show _ = _; rw [Lib.cell_of_heap (alloc_at _ _)]; rfl
        have hs1 := HB.out.size
        have hs6 : w.heap.size ≤ (wr.alloc (.cells #[.string x] 9)).heap.size := by simp; omega
        have hL : (wo (l.take j) names).length ≤ 100000 := by omega
        have HNX : Hid (∀ v' w9, OwnN w.heap.size w9 v' (wo (l.take j) names ++ [x]) → (wr.alloc (.cells #[.string x] 9)).grownBy w9 (Value.slice oo (wo (l.take j) names).length oc).ownBlock → WoInv l names w v' (.int .i64 ((j : Int) + 1)) w9) := by
          show ∀ v' w9, _ → _ → _
          intro v' w9 h1 h2
          refine ⟨j + 1, by omega, by go_num, by rw [htk, wo_snoc, if_neg hin]; exact h1, ?_⟩
          exact (HB.out.trans (A6.out.mono hs1)).grown h2 hs6 (fun x hx => (HO6.out.lt hx).1)
        clear hx htk hwl HLJ HNJ HO
        go_wp2_with fail
        refine HIN.out.mono ?_
        rintro e w' ⟨rfl, rfl⟩
        go_wp2_with (refine wpList_wanted (by rfl) fun K hK => ?_; refine wp_appN1 (Operand.tmp 20) (Operand.tmp 25) rfl w.heap.size _ _ rfl HO6.out wr.heap.size rfl x HC6.out hL hs6 ?_; intro v' w9 hown9 hg9; have HN9 := Lib.hid (HNX.out v' w9 hown9 hg9); obtain ⟨n9, hn9⟩ : ∃ n9, n9 = (wo (l.take j) names ++ [x]).length := ⟨_, rfl⟩; obtain ⟨ao9, ac9, e9⟩ := own_form hown9; rw [← hn9] at e9; subst e9; clear hown9 hg9 hn9; refine hK _ _ ?_; clear hK K)
        go_roundw
        case rel => exact HN9.out
        case measure => simp [intOf]; omega
    · have q1 : decide ((j : Int) < (l.length : Int)) = false := decide_eq_false (by omega)
      obtain rfl : j = l.length := by omega
      have htl : l.take l.length = l := List.take_length
      rw [htl] at HO ⊢
      have HFIN : Hid (RetWo l names w (.returned (.slice oo (wo l names).length oc)) wr) := ⟨_, rfl, HO.out, HB.out⟩
      clear htl HO HLJ HNJ
      go_wp2_with fail
      go_ret
      exact HFIN.out
theorem data_beq (a b : ByteArray) : (a.toList == b.toList) = decide (a = b) := str_eq
def TxInv (a b : List ByteArray) (w : World) (iv : Value) (wr : World) : Prop := ∃ j : Nat, j ≤ a.length ∧ iv = .int .i64 (j : Int) ∧ a.take j = b.take j ∧ Below w.heap.size w wr
set_option maxHeartbeats 4000000 in
set_option maxRecDepth 100000 in
theorem texts_any (a b : List ByteArray) (S T : Nat → Prop) (av bv : Value) (w : World) (ha : NAt S w av a) (hb : NAt T w bv b) (hal : a.length ≤ 100000) (hbl : b.length ≤ 100000) : Calls Tryd.prog 38 #[av, bv] w (RetBool (decide (a = b)) w) := by
  obtain ⟨ao, ac, rfl⟩ := ha.form
  obtain ⟨bo, bc, rfl⟩ := hb.form
  have HA := Lib.hid ha
  have HB := Lib.hid hb
  clear ha hb
  by_cases hll : a.length = b.length
  · have q0 : ((a.length : Int) == (b.length : Int)) = true := by simp [hll]
    have HLL := Lib.hid hll
    clear hll
    go_enter Tryd.func38, Tryd.ntmps38
    go_wp2_with fail
    go_loopw [5] (fun iv wr => TxInv a b w iv wr) (fun iv _ => a.length - (intOf iv).toNat)
    case atStart => exact ⟨0, Nat.zero_le _, rfl, by simp, Below.refl _ _⟩
    case round =>
      obtain ⟨j, hj, rfl, htk, hbw⟩ := hrel
      have HTK := Lib.hid htk
      have HBW := Lib.hid hbw
      have HAJ := Lib.hid (HA.out.keeps (Keeps.of_below hbw))
      have HBJ := Lib.hid (HB.out.keeps (Keeps.of_below hbw))
      clear htk hbw
      by_cases hlt : j < a.length
      · have q1 : decide ((j : Int) < (a.length : Int)) = true := decide_eq_true (by omega)
        have hjb : j < b.length := by have := HLL.out; omega
        obtain ⟨ga, oa, rfl, -, e0⟩ := HAJ.out.get j hlt
        obtain ⟨gb, ob, rfl, -, e1⟩ := HBJ.out.get j hjb
        obtain ⟨x, hx⟩ : ∃ x, x = a[j] := ⟨_, rfl⟩
        obtain ⟨y, hy⟩ : ∃ y, y = b[j] := ⟨_, rfl⟩
        rw [← hx] at e0
        rw [← hy] at e1
        by_cases hxy : x = y
        · have hq : (x.toList == y.toList) = true := by rw [hxy]; simp
          have HNX : Hid (∀ W, Below wr.heap.size wr W → TxInv a b w (.int .i64 ((j : Int) + 1)) W) := fun W h => ⟨j + 1, by omega, by go_num, by rw [List.take_succ_eq_append_getElem hlt, List.take_succ_eq_append_getElem hjb, HTK.out, ← hx, ← hy, hxy], HBW.out.trans (h.mono HBW.out.size)⟩
          clear hx hy hxy
          go_upto_region 6 with fail
          have HS0 : Hid (Below wr.heap.size wr wr.drew) := (Below.refl _ _).drew
          refine wp_region_noPanic ?_
          refine wp_region_held_drew (S := Below wr.heap.size wr) (by kernel_rfl) HS0.out (fun hHeld => ?_)
          generalize wr.drew = X at HS0 hHeld ⊢
          refine wpAnyH_take (i := 0) (v := Value.slice (some ⟨ga, oa, none⟩) a.length ac) rfl (by kernel_rfl) (by kernel_rfl) (by kernel_rfl) (fun _ _ _ h => h) (Or.inl ⟨rfl, fun w' hw' => ?_⟩) hHeld ?_
          · go_simp
          simp only [List.getElem_toArray, List.getElem_cons_succ, List.getElem_cons_zero, Act.put, List.setIfInBounds_toArray, List.set_cons_zero, List.set_cons_succ]
          refine wpAnyH_take (i := 1) (v := Value.int .i64 (j : Int)) rfl (by kernel_rfl) (by kernel_rfl) (by kernel_rfl) (fun _ _ _ h => h) (Or.inl ⟨rfl, fun w' hw' => ?_⟩) hHeld ?_
          · go_simp
          simp only [List.getElem_toArray, List.getElem_cons_succ, List.getElem_cons_zero, Act.put, List.setIfInBounds_toArray, List.set_cons_zero, List.set_cons_succ]
          refine wpAnyH_take (i := 2) (v := Value.pointer (some ⟨ga, oa + j, none⟩)) rfl (by kernel_rfl) (by kernel_rfl) (by kernel_rfl) (fun _ _ _ h => h) (Or.inl ⟨rfl, fun w' hw' => ?_⟩) hHeld ?_
          · go_simp
          simp only [List.getElem_toArray, List.getElem_cons_succ, List.getElem_cons_zero, Act.put, List.setIfInBounds_toArray, List.set_cons_zero, List.set_cons_succ]
          refine wpAnyH_take (i := 3) (v := Value.string x) rfl (by kernel_rfl) (by kernel_rfl) (by kernel_rfl) (fun _ _ _ h => h) (Or.inl ⟨rfl, fun w' hw' => ?_⟩) hHeld ?_
          · have q9 := cell_below hw' e0; go_simp
          simp only [List.getElem_toArray, List.getElem_cons_succ, List.getElem_cons_zero, Act.put, List.setIfInBounds_toArray, List.set_cons_zero, List.set_cons_succ]
          refine wpAnyH_take (i := 4) (v := Value.slice (some ⟨gb, ob, none⟩) b.length bc) rfl (by kernel_rfl) (by kernel_rfl) (by kernel_rfl) (fun _ _ _ h => h) (Or.inl ⟨rfl, fun w' hw' => ?_⟩) hHeld ?_
          · go_simp
          simp only [List.getElem_toArray, List.getElem_cons_succ, List.getElem_cons_zero, Act.put, List.setIfInBounds_toArray, List.set_cons_zero, List.set_cons_succ]
          refine wpAnyH_take (i := 5) (v := Value.int .i64 (j : Int)) rfl (by kernel_rfl) (by kernel_rfl) (by kernel_rfl) (fun _ _ _ h => h) (Or.inl ⟨rfl, fun w' hw' => ?_⟩) hHeld ?_
          · go_simp
          simp only [List.getElem_toArray, List.getElem_cons_succ, List.getElem_cons_zero, Act.put, List.setIfInBounds_toArray, List.set_cons_zero, List.set_cons_succ]
          refine wpAnyH_take (i := 6) (v := Value.pointer (some ⟨gb, ob + j, none⟩)) rfl (by kernel_rfl) (by kernel_rfl) (by kernel_rfl) (fun _ _ _ h => h) (Or.inl ⟨rfl, fun w' hw' => ?_⟩) hHeld ?_
          · go_simp
          simp only [List.getElem_toArray, List.getElem_cons_succ, List.getElem_cons_zero, Act.put, List.setIfInBounds_toArray, List.set_cons_zero, List.set_cons_succ]
          refine wpAnyH_take (i := 7) (v := Value.string y) rfl (by kernel_rfl) (by kernel_rfl) (by kernel_rfl) (fun _ _ _ h => h) (Or.inl ⟨rfl, fun w' hw' => ?_⟩) hHeld ?_
          · have q9 := cell_below hw' e1; go_simp
          simp only [List.getElem_toArray, List.getElem_cons_succ, List.getElem_cons_zero, Act.put, List.setIfInBounds_toArray, List.set_cons_zero, List.set_cons_succ]
          refine wpAnyH_take (i := 8) (v := Value.bool false) rfl (by kernel_rfl) (by kernel_rfl) (by kernel_rfl) (fun _ _ _ h => h) (Or.inl ⟨rfl, fun w' hw' => ?_⟩) hHeld ?_
          · go_simp
          simp only [List.getElem_toArray, List.getElem_cons_succ, List.getElem_cons_zero, Act.put, List.setIfInBounds_toArray, List.set_cons_zero, List.set_cons_succ]
          refine wpAnyH_done (by kernel_rfl) ?_ _
          refine NoPanic.normal ?_
          clear hHeld
          have HN9 := Lib.hid (HNX.out X HS0.out)
          go_wp2_with fail
          go_roundw
          case rel => exact HN9.out
          case measure => simp [intOf]; omega
        · have hq : (x.toList == y.toList) = false := by rw [data_beq]; exact decide_eq_false hxy
          have HNE : Hid (decide (a = b) = false) := decide_eq_false (by rintro rfl; exact hxy (hx.trans hy.symm))
          clear hx hy hxy
          go_upto_region 6 with fail
          have HS0 : Hid (Below wr.heap.size wr wr.drew) := (Below.refl _ _).drew
          refine wp_region_noPanic ?_
          refine wp_region_held_drew (S := Below wr.heap.size wr) (by kernel_rfl) HS0.out (fun hHeld => ?_)
          generalize wr.drew = X at HS0 hHeld ⊢
          refine wpAnyH_take (i := 0) (v := Value.slice (some ⟨ga, oa, none⟩) a.length ac) rfl (by kernel_rfl) (by kernel_rfl) (by kernel_rfl) (fun _ _ _ h => h) (Or.inl ⟨rfl, fun w' hw' => ?_⟩) hHeld ?_
          · go_simp
          simp only [List.getElem_toArray, List.getElem_cons_succ, List.getElem_cons_zero, Act.put, List.setIfInBounds_toArray, List.set_cons_zero, List.set_cons_succ]
          refine wpAnyH_take (i := 1) (v := Value.int .i64 (j : Int)) rfl (by kernel_rfl) (by kernel_rfl) (by kernel_rfl) (fun _ _ _ h => h) (Or.inl ⟨rfl, fun w' hw' => ?_⟩) hHeld ?_
          · go_simp
          simp only [List.getElem_toArray, List.getElem_cons_succ, List.getElem_cons_zero, Act.put, List.setIfInBounds_toArray, List.set_cons_zero, List.set_cons_succ]
          refine wpAnyH_take (i := 2) (v := Value.pointer (some ⟨ga, oa + j, none⟩)) rfl (by kernel_rfl) (by kernel_rfl) (by kernel_rfl) (fun _ _ _ h => h) (Or.inl ⟨rfl, fun w' hw' => ?_⟩) hHeld ?_
          · go_simp
          simp only [List.getElem_toArray, List.getElem_cons_succ, List.getElem_cons_zero, Act.put, List.setIfInBounds_toArray, List.set_cons_zero, List.set_cons_succ]
          refine wpAnyH_take (i := 3) (v := Value.string x) rfl (by kernel_rfl) (by kernel_rfl) (by kernel_rfl) (fun _ _ _ h => h) (Or.inl ⟨rfl, fun w' hw' => ?_⟩) hHeld ?_
          · have q9 := cell_below hw' e0; go_simp
          simp only [List.getElem_toArray, List.getElem_cons_succ, List.getElem_cons_zero, Act.put, List.setIfInBounds_toArray, List.set_cons_zero, List.set_cons_succ]
          refine wpAnyH_take (i := 4) (v := Value.slice (some ⟨gb, ob, none⟩) b.length bc) rfl (by kernel_rfl) (by kernel_rfl) (by kernel_rfl) (fun _ _ _ h => h) (Or.inl ⟨rfl, fun w' hw' => ?_⟩) hHeld ?_
          · go_simp
          simp only [List.getElem_toArray, List.getElem_cons_succ, List.getElem_cons_zero, Act.put, List.setIfInBounds_toArray, List.set_cons_zero, List.set_cons_succ]
          refine wpAnyH_take (i := 5) (v := Value.int .i64 (j : Int)) rfl (by kernel_rfl) (by kernel_rfl) (by kernel_rfl) (fun _ _ _ h => h) (Or.inl ⟨rfl, fun w' hw' => ?_⟩) hHeld ?_
          · go_simp
          simp only [List.getElem_toArray, List.getElem_cons_succ, List.getElem_cons_zero, Act.put, List.setIfInBounds_toArray, List.set_cons_zero, List.set_cons_succ]
          refine wpAnyH_take (i := 6) (v := Value.pointer (some ⟨gb, ob + j, none⟩)) rfl (by kernel_rfl) (by kernel_rfl) (by kernel_rfl) (fun _ _ _ h => h) (Or.inl ⟨rfl, fun w' hw' => ?_⟩) hHeld ?_
          · go_simp
          simp only [List.getElem_toArray, List.getElem_cons_succ, List.getElem_cons_zero, Act.put, List.setIfInBounds_toArray, List.set_cons_zero, List.set_cons_succ]
          refine wpAnyH_take (i := 7) (v := Value.string y) rfl (by kernel_rfl) (by kernel_rfl) (by kernel_rfl) (fun _ _ _ h => h) (Or.inl ⟨rfl, fun w' hw' => ?_⟩) hHeld ?_
          · have q9 := cell_below hw' e1; go_simp
          simp only [List.getElem_toArray, List.getElem_cons_succ, List.getElem_cons_zero, Act.put, List.setIfInBounds_toArray, List.set_cons_zero, List.set_cons_succ]
          refine wpAnyH_take (i := 8) (v := Value.bool true) rfl (by kernel_rfl) (by kernel_rfl) (by kernel_rfl) (fun _ _ _ h => h) (Or.inl ⟨rfl, fun w' hw' => ?_⟩) hHeld ?_
          · go_simp
          simp only [List.getElem_toArray, List.getElem_cons_succ, List.getElem_cons_zero, Act.put, List.setIfInBounds_toArray, List.set_cons_zero, List.set_cons_succ]
          refine wpAnyH_done (by kernel_rfl) ?_ _
          refine NoPanic.normal ?_
          clear hHeld
          go_wp2_with fail
          go_ret
          exact ⟨by rw [HNE.out]; rfl, HBW.out.trans (HS0.out.mono HBW.out.size)⟩
      · have q1 : decide ((j : Int) < (a.length : Int)) = false := decide_eq_false (by omega)
        have HEQ : Hid (decide (a = b) = true) := decide_eq_true (by
          have h1 := HTK.out
          have h2 := HLL.out
          rw [List.take_of_length_le (by omega), List.take_of_length_le (by omega)] at h1
          exact h1)
        go_wp2_with fail
        go_ret
        exact ⟨by rw [HEQ.out]; rfl, HBW.out⟩
  · have q0 : ((a.length : Int) == (b.length : Int)) = false := by simp; omega
    have HNE : Hid (decide (a = b) = false) := decide_eq_false (by rintro rfl; exact hll rfl)
    clear hll
    go_enter Tryd.func38, Tryd.ntmps38
    go_wp2_with fail
    go_ret
    exact ⟨by rw [HNE.out]; rfl, Below.refl _ _⟩
end Go.Proofs.YtmcgocbkjdacaaaDoor
