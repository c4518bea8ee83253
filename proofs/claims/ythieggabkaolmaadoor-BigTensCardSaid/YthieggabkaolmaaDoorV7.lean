/- The walk of BigTens: whatever the number, true. -/
import Derived.Test.YthieggabkaolmaaDoorV6
import Derived.Test.YthieggabkaolmaaDoorV3a
namespace Go.Proofs.YthieggabkaolmaaDoor
open Go.RowKit Go.BigM
set_option linter.unusedVariables false

theorem Is.ten : Is ⟨#[49, 48]⟩ 10 := tens_is ⟨#[49, 48]⟩ 1 (by decide) rfl

set_option maxHeartbeats 8000000 in
set_option maxRecDepth 100000 in
theorem tens_walk (a0 : Option Addr) (len0 cap0 : Nat) (z0 : List Int) (a1 : Int) (v1 : (Lit.int .i64 a1).wf = true) (w : World) (w0 : IsRow .i64 w a0 len0 cap0 z0) :
    Calls Tryd.prog 12 #[.slice a0 len0 cap0, .int .i64 a1] w fun e w' => e = .returned (.bool true) ∧ Below w.heap.size w w' := by
  have R0 := Lib.hid w0
  have hI := Lib.hid (wf_I64 a1 v1)
  have BB := Lib.hid (Below.refl w.heap.size w)
  clear w0 v1
  go_enter Tryd.func12, Tryd.ntmps12
  go_wp2_with (go_at_call 13; refine (known_any _).mono ?_; rintro e w1 ⟨rfl, hb⟩; replace BB := Lib.hid (BB.out.trans (hb.mono BB.out.size)); clear hb)
  refine (num_any a0 len0 cap0 150 z0 false _ (R0.out.below BB.out) (by decide) (by decide)).mono ?_
  rintro e wa ⟨sa, rfl, ha, la, ka, hb⟩
  replace BB := Lib.hid (BB.out.trans (hb.mono BB.out.size))
  have HA := Lib.hid ha
  have LA := Lib.hid la
  have KA := Lib.hid (low_nonneg _ (ka rfl))
  clear ha la ka hb
  go_wp2_with fail
  refine (within_some a1 10 hI.out (by decide) (by decide) _).mono ?_
  rintro e w' ⟨r, hr, rfl, rfl⟩
  go_wp2_with fail
  refine (small_any (r : Int) (by omega) (by omega) _).mono ?_
  rintro e wb ⟨sk, rfl, ik, hb⟩
  replace BB := Lib.hid (BB.out.trans (hb.mono BB.out.size))
  obtain rfl := ik.same (Is.digit r hr)
  obtain ⟨x, hx⟩ : ∃ x, x = ival sa.data.toList := ⟨_, rfl⟩
  have dx : Dg x 150 := by unfold Dg; rw [hx]; exact ival_lt _ HA.out 150 LA.out
  have ia : Is sa x := hx ▸ Is.of sa HA.out
  have px : 0 ≤ x := by rw [hx]; exact KA.out
  clear hx HA LA KA R0 hI hb
  obtain ⟨v, rfl⟩ := Int.eq_ofNat_of_zero_le px
  have hv : v < 10 ^ 150 := dx
  have hL : 10 * v + r < Lim := by
    have h1 : (10 : Nat) ^ 151 = 10 ^ 150 * 10 := Nat.pow_succ _ _
    have h2 := pow_Lim 151 (by decide)
    omega
  have hq : (((10 * v + r : Nat)) : Int).tdiv 10 = (v : Int) := by rw [Int.tdiv_eq_ediv_of_nonneg (by omega)]; omega
  have hm : (((10 * v + r : Nat)) : Int).tmod 10 = (r : Int) := by rw [Int.tmod_eq_emod_of_nonneg (by omega)]; omega
  have hqr : ((10 * v : Nat) : Int) + (r : Int) = ((10 * v + r : Nat) : Int) := by omega
  have hm10 : (v : Int) * 10 = ((10 * v : Nat) : Int) := by omega
  by_cases h0 : v = 0
  · subst h0
    obtain rfl := ia.same Is.zero
    have F1 := Lib.hid (mul_v (D := ⟨#[48]⟩) ia Is.ten (by rw [hm10]; exact Is.zero))
    have F2 := Lib.hid (add_v (D := ⟨#[UInt8.ofNat (48 + r)]⟩) Is.zero ik (by rw [Int.zero_add]; exact ik))
    have F3 := Lib.hid (quo_v (D := ⟨#[48]⟩) (E := ⟨#[UInt8.ofNat (48 + r)]⟩) ik Is.ten (by decide) (by rw [Int.tdiv_eq_ediv_of_nonneg (by omega), show (r : Int) / 10 = 0 by omega]; exact Is.zero) (by rw [Int.tmod_eq_emod_of_nonneg (by omega), show (r : Int) % 10 = r by omega]; exact ik))
    generalize (⟨#[UInt8.ofNat (48 + r)]⟩ : ByteArray) = sk at *
    clear ik ia dx px hq hm hqr hm10 hL hv hr
    go_wp2_with ((first | (go_at_call 22; (with_reducible refine (F1.out _).mono ?_)) | (go_at_call 18; (with_reducible refine (F2.out _).mono ?_)) | (go_at_call 24; (with_reducible refine (F3.out _).mono ?_))); rintro e w2 ⟨rfl, hb⟩; replace BB := Lib.hid (BB.out.trans (hb.mono BB.out.size)); clear hb)
    go_ret
    exact ⟨rfl, BB.out⟩
  · have qa := ia.nz (by omega)
    have ip := ia.snoc (d := 0) (by omega) (by omega) (by omega)
    have is := ia.snoc (d := r) (by omega) hr hL
    have ec : (⟨#[UInt8.ofNat (48 + 0)]⟩ : ByteArray) = ⟨#[48]⟩ := rfl
    rw [ec] at ip
    have F1 := Lib.hid (mul_v ia Is.ten (by rw [hm10]; exact ip))
    have F2 := Lib.hid (add_v ip ik (by rw [Nat.add_zero, hqr]; exact is))
    have F3 := Lib.hid (quo_v is Is.ten (by decide) (by rw [hq]; exact ia) (by rw [hm]; exact ik))
    have z1 := ia.size
    have z2 := ik.size
    generalize (⟨#[UInt8.ofNat (48 + r)]⟩ : ByteArray) = sk at *
    obtain ⟨sp, hsp⟩ : ∃ t, (sa ++ ⟨#[48]⟩ : ByteArray) = t := ⟨_, rfl⟩
    obtain ⟨ss, hss⟩ : ∃ t, (sa ++ sk : ByteArray) = t := ⟨_, rfl⟩
    rw [hsp] at F1 F2
    rw [hss] at F2 F3
    clear ik ia ip is dx px hq hm hqr hm10 hL hv hr h0 ec
    go_wp2_with ((first | (go_at_call 22; (with_reducible refine (F1.out _).mono ?_)) | (go_at_call 18; (with_reducible refine (F2.out _).mono ?_)) | (go_at_call 24; (with_reducible refine (F3.out _).mono ?_))); rintro e w2 ⟨rfl, hb⟩; replace BB := Lib.hid (BB.out.trans (hb.mono BB.out.size)); clear hb)
    go_ret
    exact ⟨rfl, BB.out⟩
end Go.Proofs.YthieggabkaolmaaDoor
