/- Data that are made are written so that Read can take them; the contract of the law's text. -/
import Derived.Test.YtkjcbaikebdmmaaDoorCT
import Derived.Test.YtkjcbaikebdmmaaDoorRL
namespace Go.Proofs.YtkjcbaikebdmmaaDoor
open Go.RowKit Go.BigM
set_option linter.unusedVariables false
set_option linter.unusedSimpArgs false
/-- A word that is told by itself. -/
def okW (k : Int) (u : ByteArray) : Prop := (∀ c ∈ u.data.toList, c ≠ 32) ∧ Leaf u.data.toList k u
theorem okW_word {k : Int} {u : ByteArray} (h : u.data.toList.all sset.contains = true) (h0 : u.data.toList ≠ []) (hw : (wordOf u.data.toList).map (fun x => (x.1, x.2.1.data.toList, x.2.2)) = some (k, u.data.toList, u.data.toList.length)) (h32 : u.data.toList.contains 32 = false) : okW k u := by
  refine ⟨fun c hc e => ?_, leaf_word h h0 ?_⟩
  · subst e
    have : u.data.toList.contains 32 = true := by simpa using hc
    rw [this] at h32; cases h32
  · cases hx : wordOf u.data.toList with
    | none => rw [hx] at hw; cases hw
    | some x =>
      rw [hx] at hw
      simp only [Option.map_some, Option.some.injEq, Prod.mk.injEq] at hw
      obtain ⟨a, b, c⟩ := x
      obtain ⟨rfl, h2, rfl⟩ := hw
      have : b = u := by
        cases b; cases u
        congr 1
        exact Array.toList_inj.1 h2
      rw [this]
theorem okW_getD {k : Int} {l : List ByteArray} (h : ∀ u ∈ l, okW k u) (i : Nat) (hi : i < l.length) : okW k (l.getD i ⟨#[]⟩) := by
  rw [List.getD_eq_getElem?_getD, List.getElem?_eq_getElem hi]
  exact h _ (List.getElem_mem _)
theorem okW_ints : ∀ u ∈ tblI, okW 1 u := by
  intro u hu
  simp only [tblI, List.mem_cons, List.not_mem_nil, or_false] at hu
  rcases hu with rfl | rfl | rfl | rfl | rfl <;> exact okW_word (by decide) (by decide) (by decide +kernel) (by decide)
theorem okW_bools : ∀ u ∈ tblB, okW 2 u := by
  intro u hu
  simp only [tblB, List.mem_cons, List.not_mem_nil, or_false] at hu
  rcases hu with rfl | rfl
  · exact ⟨by decide, leaf_true⟩
  · exact ⟨by decide, leaf_false⟩
theorem okW_syms : ∀ u ∈ tblS, okW 3 u := by
  intro u hu
  simp only [tblS, List.mem_cons, List.not_mem_nil, or_false] at hu
  rcases hu with rfl | rfl | rfl | rfl | rfl | rfl | rfl | rfl | rfl | rfl | rfl <;> exact okW_word (by decide) (by decide) (by decide +kernel) (by decide)
mutual
theorem make_rdb : ∀ (r : Rw), Rdb r.make
  | .mk k n l => by
    rw [Rw.make]
    split
    · exact .leaf (by decide) (okW_getD okW_ints _ (by show _ < 5; omega)).1 (okW_getD okW_ints _ (by show _ < 5; omega)).2
    · split
      · exact .leaf (by decide) (okW_getD okW_bools _ (by show _ < 2; omega)).1 (okW_getD okW_bools _ (by show _ < 2; omega)).2
      · split
        · exact .leaf (by decide) (okW_getD okW_syms _ (by show _ < 11; omega)).1 (okW_getD okW_syms _ (by show _ < 11; omega)).2
        · exact .list (makes_rdb l)
theorem makes_rdb : ∀ (l : List Rw), ∀ d ∈ Rw.makes l, Rdb d
  | [], d, h => by simp [Rw.makes] at h
  | r :: l, d, h => by
    simp only [Rw.makes, List.mem_cons] at h
    rcases h with rfl | h
    · exact make_rdb r
    · exact makes_rdb l d h
end
mutual
theorem make_dep : ∀ (r : Rw), r.make.dep ≤ r.dp
  | .mk k n l => by
    have h1 := makes_dep l
    rw [Rw.make]
    split
    · simp [Dt.dep]
    · split
      · simp [Dt.dep]
      · split
        · simp [Dt.dep]
        · simp only [Dt.dep, Rw.dp, if_true]; omega
theorem makes_dep : ∀ (l : List Rw), Dt.deps (Rw.makes l) ≤ Rw.dps l
  | [] => by simp [Rw.makes, Dt.deps]
  | r :: l => by
    have h1 := make_dep r
    have h2 := makes_dep l
    simp only [Rw.makes, Dt.deps, Rw.dps]
    omega
end
mutual
theorem plc_dep : ∀ (d : Dt) (p : Nat), (d.plc p).dep = d.dep
  | .mk k t ms l _, p => by simp only [Dt.plc, Dt.dep, plcs_dep l]
theorem plcs_dep : ∀ (l : List Dt) (p : Nat), Dt.deps (Dt.plcs p l) = Dt.deps l
  | [], p => rfl
  | d :: l, p => by simp only [Dt.plcs, Dt.deps, plc_dep d, plcs_dep l]
end
theorem plcs_length : ∀ (l : List Dt) (p : Nat), (Dt.plcs p l).length = l.length
  | [], p => rfl
  | d :: l, p => by simp [Dt.plcs, plcs_length l]
theorem txte_append : ∀ (l m : List Dt), Dt.txte (l ++ m) = Dt.txte l ++ Dt.txte m
  | [], m => rfl
  | d :: l, m => by simp [Dt.txte, txte_append l m]
theorem makes_txte : ∀ (l : List Rw), (Dt.txte (Rw.makes l)).length ≤ 41 * Rw.cnts l
  | [] => by simp [Rw.makes, Dt.txte]
  | r :: l => by
    have h1 := make_txt r
    have h2 := makes_txte l
    simp only [Rw.makes, Dt.txte, Rw.cnts, List.length_cons, List.length_append]
    omega
theorem txte_take (l : List Dt) (j : Nat) (h : j < l.length) : Dt.txte (l.take (j + 1)) = Dt.txte (l.take j) ++ (l[j].txt ++ [32]) := by
  rw [List.take_succ_eq_append_getElem h, txte_append]; simp [Dt.txte]
theorem txte_take_le (l : List Dt) (j : Nat) : (Dt.txte (l.take j)).length ≤ (Dt.txte l).length := by
  have : Dt.txte l = Dt.txte (l.take j) ++ Dt.txte (l.drop j) := by rw [← txte_append, List.take_append_drop]
  rw [this]; simp
/-- The loop of text. -/
def TeInv (l : List Dt) (w : World) (sv iv : Value) (wr : World) : Prop :=
  ∃ j : Nat, j ≤ l.length ∧ iv = .int .i64 j ∧ sv = .string ⟨(Dt.txte (l.take j)).toArray⟩ ∧ Below w.heap.size w wr
set_option maxHeartbeats 2000000 in
set_option maxRecDepth 100000 in
theorem text_any (l : List Dt) (hs : Dt.sizes l ≤ 1000000) (ht : (Dt.txte l).length ≤ 5000) (S : Nat → Prop) (ao : Option Addr) (cap : Nat) (w : World) (hl : LAt S w (.slice ao l.length cap) l) :
    Calls Tryd.prog 25 #[.slice ao l.length cap] w (RetStr ⟨(Dt.txte l).toArray⟩ w) := by
  have HL := Lib.hid hl
  have hln := length_sizes l
  clear hl
  go_enter Tryd.func25, Tryd.ntmps25
  go_wp2_with fail
  go_loopw [3, 4] (fun sv iv wr => TeInv l w sv iv wr) (fun _ iv _ => l.length - (intOf iv).toNat)
  case atStart => exact ⟨0, Nat.zero_le _, rfl, by simp [Dt.txte], Below.refl _ _⟩
  case round =>
    obtain ⟨j, hj, rfl, rfl, hb⟩ := hrel
    have G2 := Lib.hid hb
    have G3 := Lib.hid (HL.out.keeps (Keeps.of_below hb))
    clear hb
    obtain ⟨X, hX⟩ : ∃ X : ByteArray, X = ⟨(Dt.txte (l.take j)).toArray⟩ := ⟨_, rfl⟩
    have hle := txte_take_le l j
    have hxs : X.size = (Dt.txte (l.take j)).length := by rw [hX, Lib.size_eq]
    rw [← hX]
    have HX := Lib.hid hX
    clear hX
    by_cases hlt : j < l.length
    · have q1 : decide ((j : Int) < (l.length : Int)) = true := decide_eq_true (by omega)
      obtain ⟨g, o, k', t', mv', lv', p', rfl, hS, -, hat, e0, e1, e2, e3, e4, o1, o2⟩ := G3.out.get j hlt
      have hsj := size_get l j hlt
      have htk := txte_take l j hlt
      have hl3 := txte_take_le l (j + 1)
      rw [htk] at hl3
      simp only [List.length_append, List.length_cons, List.length_nil] at hl3
      have HC0 := reftext_any 1000000 (Nat.le_refl _) l[j] (by omega) (by omega) S _ wr hat
      obtain ⟨tx, htx⟩ : ∃ tx : ByteArray, tx = ⟨l[j].txt.toArray⟩ := ⟨_, rfl⟩
      have htl : tx.size = l[j].txt.length := by rw [htx]; simp only [ByteArray.size, List.size_toArray]
      rw [← htx] at HC0
      have HC := Lib.hid HC0
      have hb1 : X.size + tx.size + 1 ≤ 5000 := by omega
      have hb2 : tx.size ≤ 5000 := by omega
      have hb3 : X.size ≤ 5000 := by omega
      have HN := Lib.hid (fun (w4 : World) (hb4 : Below wr.heap.size wr w4) => show TeInv l w (.string (X ++ tx ++ ⟨#[32]⟩)) (.int .i64 ((j : Int) + 1)) w4 from
        ⟨j + 1, by omega, by go_num, by rw [HX.out, htx, str_app (Dt.txte (l.take j)) l[j].txt, str_app1, htk]; simp, G2.out.trans (hb4.mono G2.out.size)⟩)
      clear hat hS HC0 htx htl hle hl3 hxs htk hsj
      go_wp2_with fail
      refine HC.out.mono ?_
      rintro e w4 ⟨rfl, hb4⟩
      have HN4 := Lib.hid (HN.out w4 hb4)
      clear hb4 e0 e1 e2 e3 e4
      go_wp2_with fail
      go_roundw
      case rel => exact HN4.out
      case measure => simp [intOf]; omega
    · obtain rfl : j = l.length := by omega
      have q1 : decide ((l.length : Int) < (l.length : Int)) = false := decide_eq_false (by omega)
      have HE : Hid (X = (⟨(Dt.txte l).toArray⟩ : ByteArray)) := by
        show _ = _
        rw [HX.out, List.take_length]
      go_wp2_with fail
      go_ret
      exact ⟨by rw [← HE.out]; rfl, G2.out⟩
end Go.Proofs.YtkjcbaikebdmmaaDoor
