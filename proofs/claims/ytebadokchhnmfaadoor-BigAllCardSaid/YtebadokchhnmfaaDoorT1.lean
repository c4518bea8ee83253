/- Contracts of strings.TrimLeft at the cutset of one nought. -/
import Derived.Test.YtebadokchhnmfaaDoorA
namespace Go.Proofs.YtebadokchhnmfaaDoor
open Go.RowKit Go.BigM
set_option linter.unusedVariables false
theorem trimByte_any (l : List UInt8) (w : World) (hl : l.length ≤ 5000) :
    Calls Tryd.prog 58 #[.string ⟨l.toArray⟩, .int .u8 48] w fun e w' => e = .returned (.string ⟨(l.dropWhile (· == 48)).toArray⟩) ∧ w = w' := by
  go_enter Tryd.func58, Tryd.ntmps58
  go_wp2
  go_loop [0] (fun v => ∃ m : List UInt8, m.length ≤ l.length ∧ Lib.Kept (m.dropWhile (· == 48) = l.dropWhile (· == 48)) ∧ v = .string ⟨m.toArray⟩) (fun v => Lib.strSize v)
  case atStart => exact ⟨l, Nat.le_refl _, rfl, rfl⟩
  case round =>
    obtain ⟨m, hm, hk, rfl⟩ := hrel
    cases m with
    | nil =>
      have hk' : l.dropWhile (· == 48) = [] := by have := hk; unfold Lib.Kept at this; simpa using this.symm
      have HK := Lib.hid hk'
      clear hk hk'
      go_wp2
      go_ret
      exact ⟨by rw [HK.out]; rfl, rfl⟩
    | cons a m =>
      have hs : (⟨(a :: m).toArray⟩ : ByteArray).size = m.length + 1 := by simp [ByteArray.size]
      have h0 : ∀ h, (⟨(a :: m).toArray⟩ : ByteArray)[0]'h = a := fun h => rfl
      have hx : (⟨(a :: m).toArray⟩ : ByteArray).extract 1 (m.length + 1) = ⟨m.toArray⟩ := by rw [Lib.extract_mk]; simp
      simp only [List.length_cons] at hm
      by_cases ha : a = 48
      · have hk' : Lib.Kept (m.dropWhile (· == 48) = l.dropWhile (· == 48)) := by unfold Lib.Kept at *; rw [← hk, ha]; simp
        clear hk
        subst ha
        go_wp2
        go_round
        case rel => exact ⟨m, by omega, hk', rfl⟩
        case measure => simp [Lib.strSize, ByteArray.size]
      · have hk' : l.dropWhile (· == 48) = a :: m := by have := hk; unfold Lib.Kept at this; rw [← this]; simp [ha]
        have HK := Lib.hid hk'
        clear hk hk'
        have ha1 : ((a.toNat : Int) == 48) = false := by
          have : a.toNat ≠ 48 := fun e => ha (UInt8.toNat_inj.1 (by rw [e]; rfl))
          simp; omega
        clear ha
        go_wp2
        go_ret
        exact ⟨by rw [HK.out]; rfl, rfl⟩

theorem trimByte_str (s : ByteArray) (w : World) (hl : s.size ≤ 5000) :
    Calls Tryd.prog 58 #[.string s, .int .u8 48] w fun e w' => e = .returned (.string ⟨(s.data.toList.dropWhile (· == 48)).toArray⟩) ∧ w = w' :=
  trimByte_any s.data.toList w (by rw [← Lib.size_eq]; exact hl)

set_option maxRecDepth 100000 in
theorem trimLeft_any (s : ByteArray) (w : World) (hl : s.size ≤ 5000) :
    Calls Tryd.prog 47 #[.string s, .string ⟨#[48]⟩] w fun e w' => e = .returned (.string ⟨(s.data.toList.dropWhile (· == 48)).toArray⟩) ∧ w = w' := by
  by_cases h : s.toList.isEmpty = true
  · have hs : s = ⟨#[]⟩ := by
      have : s.toList = [] := by simpa using h
      apply ByteArray.ext
      apply Array.ext'
      simpa [ByteArray.toList_eq] using this
    subst hs
    go_enter Tryd.func47, Tryd.ntmps47
    go_wp2
    go_ret
    exact ⟨rfl, rfl⟩
  · have h1 : s.toList.isEmpty = false := by simpa using h
    clear h
    go_enter Tryd.func47, Tryd.ntmps47
    go_wp2_with (go_at_call 58; refine (trimByte_str s _ hl).mono ?_; rintro e w' ⟨rfl, rfl⟩)
    go_ret
    exact ⟨rfl, rfl⟩
end Go.Proofs.YtebadokchhnmfaaDoor
