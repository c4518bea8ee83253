/- The document's text of digits. -/
import Derived.Test.YtofhacafekfkgaaDoorRC
import Derived.Laws.BytesArg
namespace Go.Proofs.YtofhacafekfkgaaDoor
open Go.RowKit Go.BigM
set_option linter.unusedVariables false
set_option linter.unusedSimpArgs false
def chr (a : Nat) : UInt8 := UInt8.ofNat (48 + a)
/-- No nought on top. -/
def Top (L : List Nat) : Prop := L = [] ∨ L.getD (L.length - 1) 0 ≠ 0
theorem top_used (L : List Nat) : Top (L.take (usedOf L)) := by
  by_cases h : usedOf L = 0
  · rw [h]; exact .inl rfl
  · right
    have h1 := usedOf_top L h
    have h2 := usedOf_le L
    rw [List.length_take, Nat.min_eq_left h2, List.getD_eq_getElem?_getD, List.getElem?_take, if_pos (by omega), ← List.getD_eq_getElem?_getD]
    exact h1
theorem digs_nval : ∀ (L : List Nat), Tens L → Top L → (L.reverse.map chr) = digs (nval L)
  | [], _, _ => by simp [nval, digs_zero]
  | a :: l, h, ht => by
    have ha := h a (by simp)
    have htl : Top l := by
      cases l with
      | nil => exact .inl rfl
      | cons b m =>
        rcases ht with ht | ht
        · cases ht
        · right
          simpa using ht
    have ih := digs_nval l h.tail htl
    have hc : isD (chr a) := by unfold isD chr; rw [dig_nat a ha]; omega
    have hv : 10 * nval l + ((chr a).toNat - 48) = nval (a :: l) := by unfold chr; rw [dig_nat a ha]; simp only [nval]; omega
    have h0 : 10 * nval l + ((chr a).toNat - 48) ≠ 0 := by
      rw [hv]
      cases l with
      | nil =>
        rcases ht with ht | ht
        · cases ht
        · simp at ht; simp [nval]; exact ht
      | cons b m =>
        have h1 : digs (nval (b :: m)) ≠ [] := by rw [← ih]; simp
        have h2 : nval (b :: m) ≠ 0 := fun e => h1 (by rw [e, digs_zero])
        simp only [nval] at h2 ⊢; omega
    have := digs_snoc (nval l) (chr a) hc h0
    rw [hv] at this
    rw [this, ← ih]
    simp
theorem str_nums2 (D : List UInt8) : strOfNums (D.map fun c => (c.toNat : Int)) = ⟨D.toArray⟩ := by
  unfold strOfNums
  rw [List.map_map]
  have : ((fun n : Int => UInt8.ofNat n.toNat) ∘ fun c : UInt8 => (c.toNat : Int)) = id := by
    funext c; simp
  rw [this, List.map_id]
theorem OwnB.form {B : Nat} {w : World} {v : Value} {D : List UInt8} (h : OwnB B w v D) (h0 : D ≠ []) : ∃ g cap, v = .slice (some ⟨g, 0, none⟩) D.length cap ∧ ∀ i (hi : i < D.length), w.cell? ⟨g, i, none⟩ = some (.int .u8 (D[i].toNat : Int)) := by
  obtain ⟨h1, h⟩ := h
  rcases h with ⟨rfl, hz⟩ | ⟨g, cap, cur, rfl, hb, hh, h2, h3, h4, h5⟩
  · exact absurd (List.length_eq_zero_iff.1 hz) h0
  · refine ⟨g, cap, rfl, fun i hi => ?_⟩
    rw [cell_of_row w g i _ _ _ hh]
    have h6 : (cur.toList.take (D.length * 1))[i]? = (D.map fun (c : UInt8) => Value.int .u8 (c.toNat : Int))[i]? := by rw [h5]
    rw [List.getElem?_take, if_pos (by omega), List.getElem?_map, List.getElem?_eq_getElem hi] at h6
    simpa using h6
theorem conv_own {w : World} {g cap n : Nat} {D : List UInt8} (hn : D.length = n) (h : ∀ i (hi : i < D.length), w.cell? ⟨g, i, none⟩ = some (.int .u8 (D[i].toNat : Int))) :
    (convert 25 9 (.slice (some ⟨g, 0, none⟩) n cap)).run Tryd.prog w = .ok (.string ⟨D.toArray⟩) w := by
  have := run_convert_bytes_arg (P := Tryd.prog) w 25 5 Tryd.underlying25 Tryd.underlying5 g 0 n cap (D.map fun c => (c.toNat : Int)) (by simpa using hn) (fun i hi => by
    have hi' : i < D.length := by omega
    rw [Nat.zero_add, h i hi', List.getD_eq_getElem?_getD, List.getElem?_map, List.getElem?_eq_getElem hi']; rfl) 9 Tryd.underlying9
  rw [str_nums2] at this
  exact this
/-- The loop of text. -/
def TxInv (sg : List UInt8) (L : List Nat) (w : World) (v iv : Value) (wr : World) : Prop :=
  ∃ k, k ≤ L.length ∧ iv = .int .i64 (k : Int) ∧ OwnB w.heap.size wr v (sg ++ (L.drop k).reverse.map chr) ∧ Below w.heap.size w wr
theorem tx_step {sg : List UInt8} {L : List Nat} {w wr w2 : World} {v v' : Value} {m a : Nat} (hm : m < L.length) (hc : L[m]? = some a) (hb : Below w.heap.size w wr) (o : Obj)
    (hown : OwnB w.heap.size wr v (sg ++ (L.drop (m + 1)).reverse.map chr)) (h2 : OwnB w.heap.size w2 v' ((sg ++ (L.drop (m + 1)).reverse.map chr) ++ [chr a])) (hg : (wr.alloc o).grownBy w2 v.ownBlock) : TxInv sg L w v' (.int .i64 (m : Int)) w2 := by
  have hs := hb.size
  refine ⟨m, by omega, rfl, ?_, ?_⟩
  · have e : L.drop m = a :: L.drop (m + 1) := by
      rw [List.drop_eq_getElem_cons hm]
      rw [List.getElem?_eq_getElem hm] at hc
      injection hc with hc
      rw [hc]
    rw [e]
    simpa using h2
  · exact (hb.alloc hs o).grown hg (by simp; omega) (fun k hk => (hown.lt k hk).1)
def RetXt (b : Bool) (n : Nat) (w : World) (e : Ending) (w' : World) : Prop := e = .returned (.tuple #[.string ⟨(txt b n).toArray⟩, .bool (decide (n < Lim))]) ∧ Below w.heap.size w w'
set_option maxHeartbeats 4000000 in
set_option maxRecDepth 100000 in
theorem rtext_any (L : List Nat) (hL : Tens L) (v : Value) (b : Bool) (w : World) (h : IsL w v L) (hn : L.length ≤ 100000) : Calls Tryd.prog 34 #[v, .bool b] w (RetXt b (nval L) w) := by
  have FT := Lib.hid (trim_any L v w h hn)
  obtain ⟨M, hM⟩ : ∃ M, M = L.take (usedOf L) := ⟨_, rfl⟩
  have hv : nval M = nval L := by rw [hM, nval_used]
  have hMt : Tens M := by rw [hM]; exact hL.take _
  have hMp : Top M := by rw [hM]; exact top_used L
  have hdg := digs_nval M hMt hMp
  have hlen : (digs (nval L)).length = M.length := by rw [← hv, ← hdg]; simp
  have hlim := Lim_len (nval L)
  have hMl : M.length ≤ 100000 := by rw [hM, List.length_take]; omega
  rw [hv] at hdg
  rw [← hM] at FT
  obtain ⟨N, hN⟩ : ∃ N, N = nval L := ⟨_, rfl⟩
  rw [← hN] at hdg hlen hlim
  rw [← hN]
  have hz : N = 0 ↔ M.length = 0 := by
    constructor
    · intro e; rw [← hlen, e, digs_zero]; rfl
    · intro e
      rcases Nat.eq_zero_or_pos N with h | h
      · exact h
      · have := digs_ne N (by omega)
        rw [← List.length_pos_iff] at this; omega
  have HDG := Lib.hid hdg
  have HMT := Lib.hid hMt
  clear h hM hv hMt hMp hdg hL hn hN
  go_enter Tryd.func34, Tryd.ntmps34
  go_wp2_with fail
  refine FT.out.mono ?_
  rintro e w2 ⟨⟨u, rfl, hu⟩, rfl⟩
  have HU := Lib.hid hu
  obtain ⟨ao, cap, rfl, hc1, hc2, hc3⟩ := hu
  have hcm : cap ≤ 9223372036854775807 := by unfold maxLen at hc2; omega
  clear FT hc2
  obtain ⟨n, hnM⟩ : ∃ n, n = M.length := ⟨_, rfl⟩
  rw [← hnM] at hlen hz hMl hc1 HU
  simp only [← hnM]
  by_cases h0 : n = 0
  · have hN0 : N = 0 := hz.2 h0
    subst h0
    have hres : Hid ((⟨(txt b N).toArray⟩ : ByteArray) = ⟨#[48]⟩ ∧ decide (N < Lim) = true) := by
      refine ⟨by rw [hN0]; simp [txt], decide_eq_true (by rw [hN0]; exact Nat.pow_pos (by decide))⟩
    clear hlen hlim hc3 hnM hN0 hz
    go_wp2_with fail
    go_ret2
    exact ⟨by rw [hres.out.1, hres.out.2]; rfl, Below.refl _ _⟩
  · by_cases h200 : 200 < n
    · have hres : Hid ((⟨(txt b N).toArray⟩ : ByteArray) = ⟨#[]⟩ ∧ decide (N < Lim) = false) := by
        have h1 : ¬ N < Lim := fun h => by have := hlim.2 h; omega
        refine ⟨?_, decide_eq_false h1⟩
        unfold txt
        rw [if_neg (by intro e; exact h0 (hz.1 e)), if_neg h1]
      have q1 : decide ((200 : Int) < (n : Int)) = true := decide_eq_true (by omega)
      have q0 : ((n : Int) == 0) = false := by rw [beq_eq_false_iff_ne]; omega
      clear hlen hlim hc3 hnM hz
      go_wp2_with fail
      go_ret2
      exact ⟨by rw [hres.out.1, hres.out.2]; rfl, Below.refl _ _⟩
    · have q1 : decide ((200 : Int) < (n : Int)) = false := decide_eq_false (by omega)
      have q0 : ((n : Int) == 0) = false := by rw [beq_eq_false_iff_ne]; omega
      have hN1 : N ≠ 0 := fun e => h0 (hz.1 e)
      have hlt : N < Lim := hlim.1 (by omega)
      have hres : Hid (txt b N = (if b then [45] else []) ++ M.reverse.map chr ∧ decide (N < Lim) = true) := by
        refine ⟨?_, decide_eq_true hlt⟩
        unfold txt
        rw [if_neg hN1, if_pos hlt, HDG.out]
        cases b <;> rfl
      rcases hc3 with hM0 | ⟨g, rfl, hcells⟩
      · rw [hM0] at hnM; simp at hnM; exact absurd hnM h0
      have HC := Lib.hid hcells
      have hn200 : n ≤ 200 := by omega
      have HNM := Lib.hid hnM
      clear hlen hlim hcells hnM hz HDG hN1 hlt h200
      cases b with
      | true =>
        have hcl : (w.alloc (.cells #[.int .u8 45] 5)).cell? ⟨w.heap.size, 0, none⟩ = some (.int .u8 (((45 : UInt8)).toNat : Int)) := by rw [cell_of_row _ _ _ _ _ _ (heap_alloc_new w (.cells #[.int .u8 45] 5))]; rfl
        have hsz0 : w.heap.size ≤ (w.alloc (.cells #[.int .u8 45] 5)).heap.size := by simp
        go_wp2_with (refine wpList_wantedR (by rfl) fun K hK => ?_; refine wp_appB1 (Operand.tmp 17) (Operand.tmp 18) rfl w.heap.size (.slice none 0 0) [] rfl (OwnB.nil _ _) w.heap.size rfl 45 hcl (by simp) hsz0 ?_; intro v' w9 hown9 hg9; have HM := Lib.hid hown9; have HG := Lib.hid (((Below.refl w.heap.size w).alloc (Nat.le_refl _) _).grown hg9 hsz0 (fun k hk => by cases hk)); clear hown9 hg9; refine hK _ _ ?_; clear hK K)
        go_loopw [6, 7] (fun v iv wr => TxInv [45] M w v iv wr) (fun _ iv _ => (intOf iv).toNat)
        case atStart => exact ⟨n, by rw [← HNM.out]; exact Nat.le_refl _, rfl, by rw [HNM.out, List.drop_length]; exact HM.out, HG.out⟩
        case round =>
          obtain ⟨k, hk, rfl, hown, hb⟩ := hrel
          rw [← HNM.out] at hk
          have HO := Lib.hid hown
          have HB := Lib.hid hb
          clear hown hb
          cases k with
          | zero =>
            have hl0 := HO.out
            rw [List.drop_zero] at hl0
            obtain ⟨D, hD⟩ : ∃ D, D = [45] ++ M.reverse.map chr := ⟨_, rfl⟩
            rw [← hD] at hl0
            have hDl : D.length ≤ 201 := by
              have h1 := HNM.out
              rw [hD]; simp; omega
            have hD0 : D ≠ [] := by
              intro e
              rw [hD] at e
              have h1 := HNM.out
              have h2 := congrArg List.length e
              rw [List.length_append, List.length_map, List.length_reverse, List.length_nil] at h2
              omega
            obtain ⟨g3, c3, rfl, hcs⟩ := hl0.form hD0
            obtain ⟨dl, hdl⟩ : ∃ dl, D.length = dl := ⟨_, rfl⟩
            have hcv := conv_own (cap := c3) hdl hcs
            have HR2 : Hid (txt true N = D ∧ decide (N < Lim) = true) := ⟨by rw [hD]; exact hres.out.1, hres.out.2⟩
            rw [hdl]
            clear hl0 hD0 hcs hDl hdl hD
            go_wp2_with fail
            go_ret2
            exact ⟨by rw [HR2.out.1, HR2.out.2]; rfl, HB.out⟩
          | succ m =>
            have hm : m < n := by omega
            have hmM : m < M.length := by rw [← HNM.out]; exact hm
            obtain ⟨a, ha⟩ : ∃ a, M[m] = a := ⟨_, rfl⟩
            have hct : M[m]? = some a := by rw [List.getElem?_eq_getElem hmM, ha]
            have ha10 : a < 10 := by rw [← ha]; exact HMT.out _ (List.getElem_mem _)
            have hgl : g < w.heap.size := World.block_lt_of_cell? w _ (HC.out m hmM)
            have hcell : wr.cell? ⟨g, m, none⟩ = some (.int .i64 (a : Int)) := by rw [HB.out.cell (p := ⟨g, m, none⟩) hgl, HC.out m hmM, ha]
            have hch : (48 : Int) + (a : Int) = ((chr a).toNat : Int) := by unfold chr; rw [dig_nat a ha10]; omega
            have e1 : (((m + 1 : Nat) : Int) - 1) = (m : Int) := by omega
            obtain ⟨p, hp⟩ : ∃ p, p = m + 1 := ⟨_, rfl⟩
            rw [← hp] at e1 HO
            simp only [← hp]
            have hp0 : decide ((0 : Int) < (p : Int)) = true := decide_eq_true (by omega)
            have hp300 : p ≤ 300 := by omega
            have hmc : m < n := hm
            have hA : OwnB w.heap.size (wr.alloc (.cells #[.int .u8 ((48 : Int) + (a : Int))] 5)) u6 ([45] ++ (M.drop p).reverse.map chr) := World.ownsRow.alloc HO.out _
            have HA := Lib.hid hA
            have hlen : ([45] ++ (M.drop p).reverse.map chr).length ≤ 100000 := by
              have h1 := HNM.out
              simp; omega
            have hcl2 : (wr.alloc (.cells #[.int .u8 ((48 : Int) + (a : Int))] 5)).cell? ⟨wr.heap.size, 0, none⟩ = some (.int .u8 ((chr a).toNat : Int)) := by
              rw [cell_of_row _ _ _ _ _ _ (heap_alloc_new wr (.cells #[.int .u8 ((48 : Int) + (a : Int))] 5)), ← hch]; rfl
            have HST := Lib.hid (fun v' w2 h2 hg => tx_step (w2 := w2) (v' := v') hmM hct HB.out (.cells #[.int .u8 ((48 : Int) + (a : Int))] 5) (by rw [← hp]; exact HO.out) (by rw [← hp]; exact h2) hg)
            have hsz2 : w.heap.size ≤ (wr.alloc (.cells #[.int .u8 ((48 : Int) + (a : Int))] 5)).heap.size := by have := HB.out.size; simp; omega
            clear hct hp hA hch ha
            go_wp2_with (refine wpList_wantedR (by rfl) fun K hK => ?_; refine wp_appB1 (Operand.tmp 26) (Operand.tmp 34) rfl w.heap.size u6 _ rfl HA.out wr.heap.size rfl (chr a) hcl2 hlen hsz2 ?_; intro v' w9 hown9 hg9; have HM := Lib.hid (HST.out v' w9 hown9 hg9); clear hown9 hg9 HST HA; refine hK _ _ ?_; clear hK K)
            go_roundw
            case rel => exact HM.out
            case measure => simp [intOf]; omega
      | false =>
        go_wp2_with fail
        go_loopw [6, 7] (fun v iv wr => TxInv ([] : List UInt8) M w v iv wr) (fun _ iv _ => (intOf iv).toNat)
        case atStart => exact ⟨n, by rw [← HNM.out]; exact Nat.le_refl _, rfl, by rw [HNM.out, List.drop_length]; exact OwnB.nil _ _, Below.refl _ _⟩
        case round =>
          obtain ⟨k, hk, rfl, hown, hb⟩ := hrel
          rw [← HNM.out] at hk
          have HO := Lib.hid hown
          have HB := Lib.hid hb
          clear hown hb
          cases k with
          | zero =>
            have hl0 := HO.out
            rw [List.drop_zero] at hl0
            obtain ⟨D, hD⟩ : ∃ D, D = ([] : List UInt8) ++ M.reverse.map chr := ⟨_, rfl⟩
            rw [← hD] at hl0
            have hDl : D.length ≤ 201 := by
              have h1 := HNM.out
              rw [hD]; simp; omega
            have hD0 : D ≠ [] := by
              intro e
              rw [hD] at e
              have h1 := HNM.out
              have h2 := congrArg List.length e
              rw [List.length_append, List.length_map, List.length_reverse, List.length_nil] at h2
              omega
            obtain ⟨g3, c3, rfl, hcs⟩ := hl0.form hD0
            obtain ⟨dl, hdl⟩ : ∃ dl, D.length = dl := ⟨_, rfl⟩
            have hcv := conv_own (cap := c3) hdl hcs
            have HR2 : Hid (txt false N = D ∧ decide (N < Lim) = true) := ⟨by rw [hD]; exact hres.out.1, hres.out.2⟩
            rw [hdl]
            clear hl0 hD0 hcs hDl hdl hD
            go_wp2_with fail
            go_ret2
            exact ⟨by rw [HR2.out.1, HR2.out.2]; rfl, HB.out⟩
          | succ m =>
            have hm : m < n := by omega
            have hmM : m < M.length := by rw [← HNM.out]; exact hm
            obtain ⟨a, ha⟩ : ∃ a, M[m] = a := ⟨_, rfl⟩
            have hct : M[m]? = some a := by rw [List.getElem?_eq_getElem hmM, ha]
            have ha10 : a < 10 := by rw [← ha]; exact HMT.out _ (List.getElem_mem _)
            have hgl : g < w.heap.size := World.block_lt_of_cell? w _ (HC.out m hmM)
            have hcell : wr.cell? ⟨g, m, none⟩ = some (.int .i64 (a : Int)) := by rw [HB.out.cell (p := ⟨g, m, none⟩) hgl, HC.out m hmM, ha]
            have hch : (48 : Int) + (a : Int) = ((chr a).toNat : Int) := by unfold chr; rw [dig_nat a ha10]; omega
            have e1 : (((m + 1 : Nat) : Int) - 1) = (m : Int) := by omega
            obtain ⟨p, hp⟩ : ∃ p, p = m + 1 := ⟨_, rfl⟩
            rw [← hp] at e1 HO
            simp only [← hp]
            have hp0 : decide ((0 : Int) < (p : Int)) = true := decide_eq_true (by omega)
            have hp300 : p ≤ 300 := by omega
            have hmc : m < n := hm
            have hA : OwnB w.heap.size (wr.alloc (.cells #[.int .u8 ((48 : Int) + (a : Int))] 5)) u6 (([] : List UInt8) ++ (M.drop p).reverse.map chr) := World.ownsRow.alloc HO.out _
            have HA := Lib.hid hA
            have hlen : (([] : List UInt8) ++ (M.drop p).reverse.map chr).length ≤ 100000 := by
              have h1 := HNM.out
              simp; omega
            have hcl2 : (wr.alloc (.cells #[.int .u8 ((48 : Int) + (a : Int))] 5)).cell? ⟨wr.heap.size, 0, none⟩ = some (.int .u8 ((chr a).toNat : Int)) := by
              rw [cell_of_row _ _ _ _ _ _ (heap_alloc_new wr (.cells #[.int .u8 ((48 : Int) + (a : Int))] 5)), ← hch]; rfl
            have HST := Lib.hid (fun v' w2 h2 hg => tx_step (w2 := w2) (v' := v') hmM hct HB.out (.cells #[.int .u8 ((48 : Int) + (a : Int))] 5) (by rw [← hp]; exact HO.out) (by rw [← hp]; exact h2) hg)
            have hsz2 : w.heap.size ≤ (wr.alloc (.cells #[.int .u8 ((48 : Int) + (a : Int))] 5)).heap.size := by have := HB.out.size; simp; omega
            clear hct hp hA hch ha
            go_wp2_with (refine wpList_wantedR (by rfl) fun K hK => ?_; refine wp_appB1 (Operand.tmp 26) (Operand.tmp 34) rfl w.heap.size u6 _ rfl HA.out wr.heap.size rfl (chr a) hcl2 hlen hsz2 ?_; intro v' w9 hown9 hg9; have HM := Lib.hid (HST.out v' w9 hown9 hg9); clear hown9 hg9 HST HA; refine hK _ _ ?_; clear hK K)
            go_roundw
            case rel => exact HM.out
            case measure => simp [intOf]; omega
end Go.Proofs.YtofhacafekfkgaaDoor
