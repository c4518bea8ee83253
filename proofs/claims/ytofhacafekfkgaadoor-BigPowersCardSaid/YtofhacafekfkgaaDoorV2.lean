/- The walk of BigSigns: whatever the numbers, true. -/
import Derived.Test.YtofhacafekfkgaaDoorV0
namespace Go.Proofs.YtofhacafekfkgaaDoor
open Go.RowKit Go.BigM
set_option linter.unusedVariables false

theorem Is.neg {s : ByteArray} {x : Int} (h : Is s x) (hx : 0 < x) : Is (⟨#[45]⟩ ++ s) (-x) := by
  have hl := h.lim
  have hl' : (-x).natAbs < Lim := by rw [Int.natAbs_neg]; exact hl
  have e : (⟨#[45]⟩ ++ s : ByteArray).data.toList = txtI (-x) := by
    rw [neg_str, txt_neg (-x) (by omega) hl', h.2.2, txt_pos x hx hl, Int.natAbs_neg]
  have sp := txtI_spec (-x) hl'
  exact ⟨by rw [e]; exact sp.1, by rw [e]; exact sp.2, e⟩
theorem Is.zero : Is ⟨#[48]⟩ 0 := ⟨by decide, by decide, by decide⟩
theorem Is.nz {s : ByteArray} {x : Int} (h : Is s x) (hx : x ≠ 0) : (s.toList == [48]) = false := by
  rw [beq_eq_false_iff_ne, Lib.toList_data]
  intro e
  have h1 := h.2.1
  rw [e] at h1
  exact hx (h1.symm.trans (by decide))
theorem low_nonneg (l : List UInt8) (h : low l = false) : 0 ≤ ival l := by unfold ival; rw [h, sgn_false]; omega

set_option maxHeartbeats 8000000 in
set_option maxRecDepth 100000 in
theorem signs_walk (a0 : Option Addr) (len0 cap0 : Nat) (z0 : List Int) (a1 : Option Addr) (len1 cap1 : Nat) (z1 : List Int) (w : World) (w0 : IsRow .i64 w a0 len0 cap0 z0) (w1 : IsRow .i64 w a1 len1 cap1 z1) :
    Calls Tryd.prog 11 #[.slice a0 len0 cap0, .slice a1 len1 cap1] w fun e w' => e = .returned (.bool true) ∧ Below w.heap.size w w' := by
  have R0 := Lib.hid w0
  have R1 := Lib.hid w1
  have BB := Lib.hid (Below.refl w.heap.size w)
  clear w0 w1
  go_enter Tryd.func11, Tryd.ntmps11
  go_wp2_with (go_at_call 13; refine (known_any _).mono ?_; rintro e w1 ⟨rfl, hb⟩; replace BB := Lib.hid (BB.out.trans (hb.mono BB.out.size)); clear hb)
  refine (num_any a0 len0 cap0 90 z0 false _ (R0.out.below BB.out) (by decide) (by decide)).mono ?_
  rintro e wa ⟨sa, rfl, ha, la, ka, hb⟩
  replace BB := Lib.hid (BB.out.trans (hb.mono BB.out.size))
  have HA := Lib.hid ha
  have LA := Lib.hid la
  have KA := Lib.hid (low_nonneg _ (ka rfl))
  clear ha la ka hb
  go_wp2_with fail
  refine (num_any a1 len1 cap1 90 z1 false _ (R1.out.below BB.out) (by decide) (by decide)).mono ?_
  rintro e wb ⟨sb, rfl, ha, la, ka, hb⟩
  replace BB := Lib.hid (BB.out.trans (hb.mono BB.out.size))
  have HB := Lib.hid ha
  have LB := Lib.hid la
  have KB := Lib.hid (low_nonneg _ (ka rfl))
  clear ha la ka hb
  obtain ⟨x, hx⟩ : ∃ x, x = ival sa.data.toList := ⟨_, rfl⟩
  obtain ⟨y, hy⟩ : ∃ y, y = ival sb.data.toList := ⟨_, rfl⟩
  have dx : Dg x 90 := by unfold Dg; rw [hx]; exact ival_lt _ HA.out 90 LA.out
  have dy : Dg y 90 := by unfold Dg; rw [hy]; exact ival_lt _ HB.out 90 LB.out
  have ia : Is sa x := hx ▸ Is.of sa HA.out
  have ib : Is sb y := hy ▸ Is.of sb HB.out
  have px : 0 ≤ x := by rw [hx]; exact KA.out
  have py : 0 ≤ y := by rw [hy]; exact KB.out
  clear hx hy HA HB LA LB KA KB R0 R1
  by_cases x0 : x = 0
  · subst x0
    obtain rfl := ia.same Is.zero
    have F := Lib.hid (mul_v (D := ⟨#[48]⟩) Is.zero ib (by rw [Int.zero_mul]; exact Is.zero))
    clear ia ib dx dy px py
    go_wp2_with (go_at_call 22; (with_reducible refine (F.out _).mono ?_); rintro e w2 ⟨rfl, hb⟩; replace BB := Lib.hid (BB.out.trans (hb.mono BB.out.size)); clear hb)
    go_ret
    exact ⟨rfl, BB.out⟩
  · have q1 := ia.nz x0
    by_cases y0 : y = 0
    · subst y0
      obtain rfl := ib.same Is.zero
      have F := Lib.hid (mul_v (D := ⟨#[48]⟩) ia Is.zero (by rw [Int.mul_zero]; exact Is.zero))
      clear ia ib dx dy px py x0
      go_wp2_with (go_at_call 22; (with_reducible refine (F.out _).mono ?_); rintro e w2 ⟨rfl, hb⟩; replace BB := Lib.hid (BB.out.trans (hb.mono BB.out.size)); clear hb)
      go_ret
      exact ⟨rfl, BB.out⟩
    · have q2 := ib.nz y0
      have hx : 0 < x := by omega
      have hy : 0 < y := by omega
      have hxy : 0 < x * y := Int.mul_pos hx hy
      obtain ⟨sp, ip⟩ := Is.mk (x * y) ((dx.mul dy).lim (by decide))
      obtain ⟨su, iu⟩ := Is.mk (x + y) ((dx.add dy).lim (by decide))
      have ina := ia.neg hx
      have inb := ib.neg hy
      have inp := ip.neg hxy
      have inu := iu.neg (by omega)
      obtain ⟨sna, e1⟩ : ∃ t, (⟨#[45]⟩ ++ sa : ByteArray) = t := ⟨_, rfl⟩
      obtain ⟨snb, e2⟩ : ∃ t, (⟨#[45]⟩ ++ sb : ByteArray) = t := ⟨_, rfl⟩
      obtain ⟨snp, e3⟩ : ∃ t, (⟨#[45]⟩ ++ sp : ByteArray) = t := ⟨_, rfl⟩
      obtain ⟨snu, e4⟩ : ∃ t, (⟨#[45]⟩ ++ su : ByteArray) = t := ⟨_, rfl⟩
      rw [e1] at ina
      rw [e2] at inb
      rw [e3] at inp
      rw [e4] at inu
      have F1 := Lib.hid (add_v (D := ⟨#[48]⟩) ia ina (by rw [Int.add_right_neg]; exact Is.zero))
      have F2 := Lib.hid (mul_v ia ib ip)
      have F3 := Lib.hid (mul_v ina ib (by rw [Int.neg_mul]; exact inp))
      have F4 := Lib.hid (mul_v ina inb (by rw [Int.neg_mul_neg]; exact ip))
      have F5 := Lib.hid (add_v ina inb (by rw [← Int.neg_add]; exact inu))
      have F6 := Lib.hid (add_v ia ib iu)
      have F7 := Lib.hid (cmp_v ina Is.zero (-1) (by unfold cmpI; rw [if_pos (by omega)]))
      have F8 := Lib.hid (cmp_v ia Is.zero 1 (by unfold cmpI; rw [if_neg (by omega), if_neg (by omega)]))
      have n2 := ip.ne
      have z1 := ia.size
      have z2 := ib.size
      have z3 := ip.size
      have z4 := iu.size
      clear ia ib ina inb ip iu inp inu dx dy px py x0 y0 hx hy hxy
      go_wp2_with ((first | (go_at_call 18; first | (with_reducible refine (F1.out _).mono ?_) | (with_reducible refine (F5.out _).mono ?_) | (with_reducible refine (F6.out _).mono ?_)) | (go_at_call 22; first | (with_reducible refine (F2.out _).mono ?_) | (with_reducible refine (F3.out _).mono ?_) | (with_reducible refine (F4.out _).mono ?_)) | (go_at_call 26; first | (with_reducible refine (F7.out _).mono ?_) | (with_reducible refine (F8.out _).mono ?_))); rintro e w2 ⟨rfl, hb⟩; replace BB := Lib.hid (BB.out.trans (hb.mono BB.out.size)); clear hb)
      go_ret
      exact ⟨rfl, BB.out⟩
end Go.Proofs.YtofhacafekfkgaaDoor
