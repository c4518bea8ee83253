/- Contracts of strings.TrimPrefix at the prefix of one sign. -/
import Derived.Test.YtcalbcllmmoldaaBM
import Derived.Test.YtcalbcllmmoldaaA4
import Derived.PlainAid
namespace Go.Proofs.Ytcalbcllmmoldaa
open Go.RowKit Go.BigM
set_option linter.unusedVariables false

theorem take_snoc (s : ByteArray) (k : Nat) (h : k < s.size) : s.data.toList.take (k + 1) = s.data.toList.take k ++ [s[k]] := by
  rw [List.take_succ_eq_append_getElem (by simpa using h)]; rfl
theorem hasPre_any (s : ByteArray) (w : World) :
    Calls Try.prog 86 #[.string s, .string ⟨#[45]⟩] w fun e w' => e = .returned (.bool (low s.data.toList)) ∧ w = w' := by
  by_cases h : 1 ≤ s.size
  · have h2 : ((s.extract 0 1).toList == [45]) = low s.data.toList := by
      rw [Lib.extract_toList]
      cases hl : s.data.toList with
      | nil => rw [Lib.size_eq, hl] at h; simp at h
      | cons a m => simp [low]
    go_enter Try.func86, Try.ntmps86
    go_wp2
    go_ret
    exact ⟨rfl, rfl⟩
  · have h2 : low s.data.toList = false := by
      have : s.data.toList = [] := List.length_eq_zero_iff.1 (by rw [← Lib.size_eq]; omega)
      rw [this]; rfl
    have h3 : s.size = 0 := by omega
    rw [h2]
    clear h2
    go_enter Try.func86, Try.ntmps86
    go_wp2
    go_ret
    exact ⟨rfl, rfl⟩

theorem hasPre_b (s : ByteArray) (b : Bool) (hb : low s.data.toList = b) (w : World) :
    Calls Try.prog 86 #[.string s, .string ⟨#[45]⟩] w fun e w' => e = .returned (.bool b) ∧ w = w' := hb ▸ hasPre_any s w

theorem trimPre42 (s : ByteArray) (w : World) (hs : s.size ≤ 5000) :
    Calls Try.prog 72 #[.string s, .string ⟨#[45]⟩] w fun e w' => e = .returned (.string ⟨(strip s.data.toList).toArray⟩) ∧ w = w' := by
  cases hb : low s.data.toList with
  | true =>
    have he : (⟨(strip s.data.toList).toArray⟩ : ByteArray) = s.extract 1 s.size := by
      rw [strip_low _ hb, Lib.extract_eq, List.take_of_length_le (by rw [List.length_drop, ← Lib.size_eq]; exact Nat.le_refl _)]; simp
    have h1 : 1 ≤ s.size := by
      rw [Lib.size_eq]; cases hl : s.data.toList with
      | nil => rw [hl] at hb; simp [low] at hb
      | cons a m => simp
    rw [he]
    have H := Lib.hid hb
    clear hb he
    go_enter Try.func72, Try.ntmps72
    go_wp2_with (go_at_call 86; refine (hasPre_b s true H.out _).mono ?_; rintro e w' ⟨rfl, rfl⟩)
    go_ret
    exact ⟨rfl, rfl⟩
  | false =>
    have he : (⟨(strip s.data.toList).toArray⟩ : ByteArray) = s := by rw [strip_high _ hb, Lib.mk_data]
    rw [he]
    have H := Lib.hid hb
    clear hb he
    go_enter Try.func72, Try.ntmps72
    go_wp2_with (go_at_call 86; refine (hasPre_b s false H.out _).mono ?_; rintro e w' ⟨rfl, rfl⟩)
    go_ret
    exact ⟨rfl, rfl⟩

theorem trimPre_any (s : ByteArray) (w : World) (hs : s.size ≤ 5000) :
    Calls Try.prog 66 #[.string s, .string ⟨#[45]⟩] w fun e w' => e = .returned (.string ⟨(strip s.data.toList).toArray⟩) ∧ w = w' := by
  go_enter Try.func66, Try.ntmps66
  go_wp2_with (go_at_call 72; refine (trimPre42 s _ hs).mono ?_; rintro e w' ⟨rfl, rfl⟩)
  go_ret
  exact ⟨rfl, rfl⟩
end Go.Proofs.Ytcalbcllmmoldaa
