/- The document's reader: next: a boolean, a row of signs, what is nothing. -/
import Derived.Test.YtahdiknkcgnieaaDoorQ14
import Derived.Test.YtahdiknkcgnieaaDoorLT
namespace Go.Proofs.YtahdiknkcgnieaaDoor
open Go.RowKit Go.BigM
set_option linter.unusedVariables false
set_option linter.unusedSimpArgs false
theorem bool_two (c : UInt8) (r : List UInt8) : boolOf (35 :: c :: r) = if (c = 116 ∨ c = 102) ∧ rowOf sset r = 0 then some ⟨#[35, c]⟩ else none := by
  unfold boolOf bAt
  by_cases h1 : c = 116
  · subst h1
    by_cases h2 : rowOf sset r = 0 <;> simp [Lib.hasPrefix, Lib.trimPrefix, List.isPrefixOf, h2]
  · have h1b : (116 == c) = false := by simpa using (fun e => h1 e.symm)
    by_cases h3 : c = 102
    · subst h3
      by_cases h2 : rowOf sset r = 0 <;> simp [Lib.hasPrefix, Lib.trimPrefix, List.isPrefixOf, h2]
    · have h3b : (102 == c) = false := by simpa using (fun e => h3 e.symm)
      simp [Lib.hasPrefix, List.isPrefixOf, h1b, h3b, h1, h3]
theorem tok_hash (r : List UInt8) : tokOf (35 :: r) = (boolOf (35 :: r)).map (fun t => (2, t, 2)) := by
  unfold tokOf
  rw [if_pos (by simp [Lib.hasPrefix, List.isPrefixOf])]
theorem hash_a {s : ByteArray} {p : Nat} (hp : p < s.size) (hb : s[p] = 35) (h1 : ¬ p + 1 < s.size) : tokOf (s.data.toList.drop p) = none := by
  rw [drop_at s p hp, hb, List.drop_eq_nil_of_le (by rw [← Lib.size_eq]; omega), tok_hash]
  rfl
theorem hash_b {s : ByteArray} {p : Nat} (hp : p < s.size) (hb : s[p] = 35) (h1 : p + 1 < s.size) : tokOf (s.data.toList.drop p) = if (s[p + 1] = 116 ∨ s[p + 1] = 102) ∧ rowOf sset (s.data.toList.drop (p + 2)) = 0 then some (2, ⟨#[35, s[p + 1]]⟩, 2) else none := by
  rw [drop_at s p hp, hb, drop_at s (p + 1) h1, tok_hash, bool_two]
  split <;> rfl
theorem row0_end {s : ByteArray} {p : Nat} (h : ¬ p < s.size) : rowOf sset (s.data.toList.drop p) = 0 := by
  rw [List.drop_eq_nil_of_le (by rw [← Lib.size_eq]; omega)]; rfl
theorem row0_no {s : ByteArray} {p : Nat} (h : p < s.size) (hc : sset.contains s[p] = false) : rowOf sset (s.data.toList.drop p) = 0 := by
  rw [drop_at s p h]; unfold rowOf; rw [List.takeWhile_cons, hc]; rfl
theorem cut_two {s : ByteArray} {p : Nat} (hp : p < s.size) (hb : s[p] = 35) (h1 : p + 1 < s.size) : s.extract p (p + 2) = ⟨#[35, s[p + 1]]⟩ := by
  apply ByteArray.ext
  apply Array.ext'
  rw [ByteArray.data_extract, Array.toList_extract, List.extract_eq_take_drop, drop_at s p hp, hb, drop_at s (p + 1) h1]
  have : p + 2 - p = 2 := by omega
  rw [this]; rfl
end Go.Proofs.YtahdiknkcgnieaaDoor
