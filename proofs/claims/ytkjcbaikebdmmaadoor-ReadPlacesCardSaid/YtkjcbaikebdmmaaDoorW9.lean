/- How long the texts of made data are; how large they are. -/
import Derived.Test.YtkjcbaikebdmmaaDoorW8
import Derived.Lib.TrimByte
namespace Go.Proofs.YtkjcbaikebdmmaaDoor
open Go.RowKit
set_option linter.unusedVariables false

theorem size_list (t : ByteArray) : t.data.toList.length = t.size := by rw [Array.length_toList]; rfl
theorem getD_le (l : List ByteArray) (m : Nat) (h : ∀ t ∈ l, t.size ≤ m) (i : Nat) : (l.getD i ⟨#[]⟩).size ≤ m := by
  rw [List.getD_eq_getElem?_getD]
  cases hq : l[i]? with
  | none => exact Nat.zero_le _
  | some t => simp; exact h t (List.mem_of_getElem? hq)
theorem tblI_le : ∀ t ∈ tblI, t.size ≤ 30 := by decide
theorem tblB_le : ∀ t ∈ tblB, t.size ≤ 30 := by decide
theorem tblS_le : ∀ t ∈ tblS, t.size ≤ 30 := by decide
theorem leaf_txt (k : Int) (t : ByteArray) (ms : List Int) (l : List Dt) (p : Int) (hk : k ≠ 4) : (Dt.mk k t ms l p).txt = t.data.toList := by simp [Dt.txt, hk]
theorem txts_txtr (l : List Dt) : (Dt.txts l).length ≤ (Dt.txtr l).length := by cases l <;> simp [Dt.txts, Dt.txtr]
mutual
theorem make_txt : ∀ (r : Rw), r.make.txt.length + 1 ≤ 41 * r.cnt
  | .mk k n l => by
    rw [Rw.make]
    have hc : 41 ≤ 41 * (Rw.mk k n l).cnt := by simp only [Rw.cnt]; omega
    split
    · rw [leaf_txt _ _ _ _ _ (by decide), size_list]; have := getD_le _ _ tblI_le (n % 5).toNat; omega
    · split
      · rw [leaf_txt _ _ _ _ _ (by decide), size_list]; have := getD_le _ _ tblB_le (n % 2).toNat; omega
      · split
        · rw [leaf_txt _ _ _ _ _ (by decide), size_list]; have := getD_le _ _ tblS_le (n % 11).toNat; omega
        · have h1 := makes_txt l
          have h2 := txts_txtr (Rw.makes l)
          simp only [Dt.txt, if_true, List.length_cons, List.length_append, List.length_nil, Rw.cnt]
          omega
theorem makes_txt : ∀ (l : List Rw), (Dt.txtr (Rw.makes l)).length ≤ 41 * Rw.cnts l
  | [] => by simp [Rw.makes, Dt.txtr]
  | r :: l => by
    have h1 := make_txt r
    have h2 := makes_txt l
    simp only [Rw.makes, Dt.txtr, Rw.cnts, List.length_cons, List.length_append]
    omega
end
mutual
theorem make_size : ∀ (r : Rw), r.make.size ≤ r.cnt
  | .mk k n l => by
    have h1 := makes_size l
    rw [Rw.make]
    split
    · simp only [Dt.size, Dt.sizes, Rw.cnt]; omega
    · split
      · simp only [Dt.size, Dt.sizes, Rw.cnt]; omega
      · split
        · simp only [Dt.size, Dt.sizes, Rw.cnt]; omega
        · simp only [Dt.size, Rw.cnt]; omega
theorem makes_size : ∀ (l : List Rw), Dt.sizes (Rw.makes l) ≤ Rw.cnts l
  | [] => by simp [Rw.makes, Dt.sizes]
  | r :: l => by
    have h1 := make_size r
    have h2 := makes_size l
    simp only [Rw.makes, Dt.sizes, Rw.cnts]
    omega
end
theorem str_app (a b : List UInt8) : (⟨a.toArray⟩ ++ ⟨b.toArray⟩ : ByteArray) = ⟨(a ++ b).toArray⟩ := by
  apply ByteArray.ext
  simp [ByteArray.data_append]
theorem str_app1 (a : List UInt8) (c : UInt8) : (⟨a.toArray⟩ ++ ⟨#[c]⟩ : ByteArray) = ⟨(a ++ [c]).toArray⟩ := str_app a [c]
end Go.Proofs.YtkjcbaikebdmmaaDoor
