/- The document's reader: may a byte stand in a name? -/
import Derived.Test.YtahdiknkcgnieaaDoorQ0
namespace Go.Proofs.YtahdiknkcgnieaaDoor
open Go.RowKit Go.BigM
set_option linter.unusedVariables false
set_option linter.unusedSimpArgs false
def lget (k : Nat) : Nat := ([33, 63, 42, 60, 62, 61, 43, 45, 47, 46, 95] : List Nat).getD k 0
theorem lb_get (i : Nat) (h : i < 11) : ((⟨#[33, 63, 42, 60, 62, 61, 43, 45, 47, 46, 95]⟩ : ByteArray)[i]'h).toNat = lget i := by
  have key : ∀ i : Fin 11, ((⟨#[33, 63, 42, 60, 62, 61, 43, 45, 47, 46, 95]⟩ : ByteArray)[i.1]'i.2).toNat = lget i.1 := by decide +kernel
  exact key ⟨i, h⟩
theorem lget_in (i : Nat) (h : i < 11) : sset.contains (UInt8.ofNat (lget i)) = true := by
  have key : ∀ i : Fin 11, sset.contains (UInt8.ofNat (lget i.1)) = true := by decide +kernel
  exact key ⟨i, h⟩
def SgInv (c : UInt8) (w : World) (iv : Value) (wr : World) : Prop := ∃ i : Nat, i ≤ 11 ∧ iv = .int .i64 (i : Int) ∧ (∀ k, k < i → c.toNat ≠ lget k) ∧ wr = w
theorem sg_of (c : UInt8) (v : Nat) (h : c.toNat = v) (hv : (sset.contains (UInt8.ofNat v)) = true) : sset.contains c = true := by
  have : c = UInt8.ofNat v := by rw [← h]; simp
  rw [this]; exact hv
theorem sg_no (c : UInt8) (h : ¬ (97 ≤ c.toNat ∧ c.toNat ≤ 122) ∧ ¬ (48 ≤ c.toNat ∧ c.toNat ≤ 57)) (hin : ∀ k, k < 11 → c.toNat ≠ lget k) : sset.contains c = false := by
  have key : ∀ c : UInt8, (¬ (97 ≤ c.toNat ∧ c.toNat ≤ 122) ∧ ¬ (48 ≤ c.toNat ∧ c.toNat ≤ 57)) → (∀ k : Fin 11, c.toNat ≠ lget k.1) → sset.contains c = false := u8_all (by decide +kernel)
  exact key c h (fun k => hin k.1 k.2)
theorem sg_low (c : UInt8) (h : (97 ≤ c.toNat ∧ c.toNat ≤ 122) ∨ (48 ≤ c.toNat ∧ c.toNat ≤ 57)) : sset.contains c = true := by
  have key : ∀ c : UInt8, ((97 ≤ c.toNat ∧ c.toNat ≤ 122) ∨ (48 ≤ c.toNat ∧ c.toNat ≤ 57)) → sset.contains c = true := u8_all (by decide +kernel)
  exact key c h
set_option maxHeartbeats 8000000 in
set_option maxRecDepth 100000 in
theorem sign_any (c : UInt8) (w : World) : Calls Tryd.prog 51 #[.int .u8 (c.toNat : Int)] w fun e w' => e = .returned (.bool (sset.contains c)) ∧ w = w' := by
  go_enter Tryd.func51, Tryd.ntmps51
  by_cases h1 : 97 ≤ c.toNat
  · have p1 : decide (97 ≤ (c.toNat : Int)) = true := decide_eq_true (by omega)
    by_cases h2 : c.toNat ≤ 122
    · have p2 : decide ((c.toNat : Int) ≤ 122) = true := decide_eq_true (by omega)
      have HE : Hid (sset.contains c = true) := sg_low c (.inl ⟨h1, h2⟩)
      go_wp2_with fail
      go_ret
      exact ⟨by rw [HE.out]; rfl, rfl⟩
    · have p2 : decide ((c.toNat : Int) ≤ 122) = false := decide_eq_false (by omega)
      have p3 : decide (48 ≤ (c.toNat : Int)) = true := decide_eq_true (by omega)
      have p4 : decide ((c.toNat : Int) ≤ 57) = false := decide_eq_false (by omega)
      have hno : ¬ (97 ≤ c.toNat ∧ c.toNat ≤ 122) ∧ ¬ (48 ≤ c.toNat ∧ c.toNat ≤ 57) := by omega
      go_wp2_with fail
      go_loopw [3] (fun iv wr => SgInv c w iv wr) (fun iv _ => 11 - (intOf iv).toNat)
      case atStart => exact ⟨0, by omega, rfl, fun k hk => absurd hk (by omega), rfl⟩
      case round =>
        obtain ⟨i, hi, rfl, hin, rfl⟩ := hrel
        have HIN := Lib.hid hin
        clear hin
        by_cases hlt : i < 11
        · have hx : i < (⟨#[33, 63, 42, 60, 62, 61, 43, 45, 47, 46, 95]⟩ : ByteArray).size := hlt
          have q1 : decide ((i : Int) < 11) = true := decide_eq_true (by omega)
          have hg := lb_get i hlt
          by_cases hv : c.toNat = lget i
          · have HE : Hid (sset.contains c = true) := sg_of c (lget i) hv (lget_in i hlt)
            have e2 : ((((⟨#[33, 63, 42, 60, 62, 61, 43, 45, 47, 46, 95]⟩ : ByteArray)[i]'hx).toNat : Int) == (c.toNat : Int)) = true := by rw [hg, hv]; simp
            clear hv hg
            go_wp2_with fail
            go_ret
            exact ⟨by rw [HE.out]; rfl, rfl⟩
          · have e2 : ((((⟨#[33, 63, 42, 60, 62, 61, 43, 45, 47, 46, 95]⟩ : ByteArray)[i]'hx).toNat : Int) == (c.toNat : Int)) = false := by rw [hg]; simp; omega
            have HV := Lib.hid hv
            clear hv hg
            go_wp2_with fail
            go_roundw
            case rel => exact ⟨i + 1, by omega, by go_num, fun k hk => by
              by_cases hkj : k = i
              · subst hkj; exact HV.out
              · exact HIN.out k (by omega), rfl⟩
            case measure => simp [intOf]; omega
        · have hi11 : i = 11 := by omega
          subst hi11
          have HE : Hid (sset.contains c = false) := sg_no c hno HIN.out
          go_wp2_with fail
          go_ret
          exact ⟨by rw [HE.out]; rfl, rfl⟩
  · have p1 : decide (97 ≤ (c.toNat : Int)) = false := decide_eq_false (by omega)
    by_cases h2 : 48 ≤ c.toNat
    · have p2 : decide (48 ≤ (c.toNat : Int)) = true := decide_eq_true (by omega)
      by_cases h3 : c.toNat ≤ 57
      · have p3 : decide ((c.toNat : Int) ≤ 57) = true := decide_eq_true (by omega)
        have HE : Hid (sset.contains c = true) := sg_low c (.inr ⟨h2, h3⟩)
        go_wp2_with fail
        go_ret
        exact ⟨by rw [HE.out]; rfl, rfl⟩
      · have p3 : decide ((c.toNat : Int) ≤ 57) = false := decide_eq_false (by omega)
        have hno : ¬ (97 ≤ c.toNat ∧ c.toNat ≤ 122) ∧ ¬ (48 ≤ c.toNat ∧ c.toNat ≤ 57) := by omega
        go_wp2_with fail
        go_loopw [3] (fun iv wr => SgInv c w iv wr) (fun iv _ => 11 - (intOf iv).toNat)
        case atStart => exact ⟨0, by omega, rfl, fun k hk => absurd hk (by omega), rfl⟩
        case round =>
          obtain ⟨i, hi, rfl, hin, rfl⟩ := hrel
          have HIN := Lib.hid hin
          clear hin
          by_cases hlt : i < 11
          · have hx : i < (⟨#[33, 63, 42, 60, 62, 61, 43, 45, 47, 46, 95]⟩ : ByteArray).size := hlt
            have q1 : decide ((i : Int) < 11) = true := decide_eq_true (by omega)
            have hg := lb_get i hlt
            by_cases hv : c.toNat = lget i
            · have HE : Hid (sset.contains c = true) := sg_of c (lget i) hv (lget_in i hlt)
              have e2 : ((((⟨#[33, 63, 42, 60, 62, 61, 43, 45, 47, 46, 95]⟩ : ByteArray)[i]'hx).toNat : Int) == (c.toNat : Int)) = true := by rw [hg, hv]; simp
              clear hv hg
              go_wp2_with fail
              go_ret
              exact ⟨by rw [HE.out]; rfl, rfl⟩
            · have e2 : ((((⟨#[33, 63, 42, 60, 62, 61, 43, 45, 47, 46, 95]⟩ : ByteArray)[i]'hx).toNat : Int) == (c.toNat : Int)) = false := by rw [hg]; simp; omega
              have HV := Lib.hid hv
              clear hv hg
              go_wp2_with fail
              go_roundw
              case rel => exact ⟨i + 1, by omega, by go_num, fun k hk => by
                by_cases hkj : k = i
                · subst hkj; exact HV.out
                · exact HIN.out k (by omega), rfl⟩
              case measure => simp [intOf]; omega
          · have hi11 : i = 11 := by omega
            subst hi11
            have HE : Hid (sset.contains c = false) := sg_no c hno HIN.out
            go_wp2_with fail
            go_ret
            exact ⟨by rw [HE.out]; rfl, rfl⟩
    · have p2 : decide (48 ≤ (c.toNat : Int)) = false := decide_eq_false (by omega)
      have hno : ¬ (97 ≤ c.toNat ∧ c.toNat ≤ 122) ∧ ¬ (48 ≤ c.toNat ∧ c.toNat ≤ 57) := by omega
      go_wp2_with fail
      go_loopw [3] (fun iv wr => SgInv c w iv wr) (fun iv _ => 11 - (intOf iv).toNat)
      case atStart => exact ⟨0, by omega, rfl, fun k hk => absurd hk (by omega), rfl⟩
      case round =>
        obtain ⟨i, hi, rfl, hin, rfl⟩ := hrel
        have HIN := Lib.hid hin
        clear hin
        by_cases hlt : i < 11
        · have hx : i < (⟨#[33, 63, 42, 60, 62, 61, 43, 45, 47, 46, 95]⟩ : ByteArray).size := hlt
          have q1 : decide ((i : Int) < 11) = true := decide_eq_true (by omega)
          have hg := lb_get i hlt
          by_cases hv : c.toNat = lget i
          · have HE : Hid (sset.contains c = true) := sg_of c (lget i) hv (lget_in i hlt)
            have e2 : ((((⟨#[33, 63, 42, 60, 62, 61, 43, 45, 47, 46, 95]⟩ : ByteArray)[i]'hx).toNat : Int) == (c.toNat : Int)) = true := by rw [hg, hv]; simp
            clear hv hg
            go_wp2_with fail
            go_ret
            exact ⟨by rw [HE.out]; rfl, rfl⟩
          · have e2 : ((((⟨#[33, 63, 42, 60, 62, 61, 43, 45, 47, 46, 95]⟩ : ByteArray)[i]'hx).toNat : Int) == (c.toNat : Int)) = false := by rw [hg]; simp; omega
            have HV := Lib.hid hv
            clear hv hg
            go_wp2_with fail
            go_roundw
            case rel => exact ⟨i + 1, by omega, by go_num, fun k hk => by
              by_cases hkj : k = i
              · subst hkj; exact HV.out
              · exact HIN.out k (by omega), rfl⟩
            case measure => simp [intOf]; omega
        · have hi11 : i = 11 := by omega
          subst hi11
          have HE : Hid (sset.contains c = false) := sg_no c hno HIN.out
          go_wp2_with fail
          go_ret
          exact ⟨by rw [HE.out]; rfl, rfl⟩
end Go.Proofs.YtahdiknkcgnieaaDoor
