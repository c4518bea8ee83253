/- The walk of BigRules: whatever the numbers, true. -/
import Derived.Test.YthieggabkaolmaaDoorV0
namespace Go.Proofs.YthieggabkaolmaaDoor
open Go.RowKit Go.BigM
set_option linter.unusedVariables false

set_option maxHeartbeats 8000000 in
set_option maxRecDepth 100000 in
theorem rules_walk (a0 : Option Addr) (len0 cap0 : Nat) (z0 : List Int) (a1 : Option Addr) (len1 cap1 : Nat) (z1 : List Int) (a2 : Option Addr) (len2 cap2 : Nat) (z2 : List Int) (a3 : Bool) (a4 : Bool) (w : World) (w0 : IsRow .i64 w a0 len0 cap0 z0) (w1 : IsRow .i64 w a1 len1 cap1 z1) (w2 : IsRow .i64 w a2 len2 cap2 z2) :
    Calls Tryd.prog 6 #[.slice a0 len0 cap0, .slice a1 len1 cap1, .slice a2 len2 cap2, .bool a3, .bool a4] w fun e w' => e = .returned (.bool true) ∧ Below w.heap.size w w' := by
  have R0 := Lib.hid w0
  have R1 := Lib.hid w1
  have R2 := Lib.hid w2
  have BB := Lib.hid (Below.refl w.heap.size w)
  clear w0 w1 w2
  go_enter Tryd.func6, Tryd.ntmps6
  go_wp2_with (go_at_call 13; refine (known_any _).mono ?_; rintro e w1 ⟨rfl, hb⟩; replace BB := Lib.hid (BB.out.trans (hb.mono BB.out.size)); clear hb)
  refine (num_any a0 len0 cap0 60 z0 a3 _ (R0.out.below BB.out) (by decide) (by decide)).mono ?_
  rintro e wa ⟨sa, rfl, ha, la, ka, hb⟩
  replace BB := Lib.hid (BB.out.trans (hb.mono BB.out.size))
  have HA := Lib.hid ha
  have LA := Lib.hid la
  clear ha la ka hb
  go_wp2_with fail
  refine (num_any a1 len1 cap1 60 z1 a4 _ (R1.out.below BB.out) (by decide) (by decide)).mono ?_
  rintro e wb ⟨sb, rfl, ha, la, ka, hb⟩
  replace BB := Lib.hid (BB.out.trans (hb.mono BB.out.size))
  have HB := Lib.hid ha
  have LB := Lib.hid la
  clear ha la ka hb
  go_wp2_with fail
  refine (num_any a2 len2 cap2 60 z2 _ _ (R2.out.below BB.out) (by decide) (by decide)).mono ?_
  rintro e wc ⟨sc, rfl, ha, la, ka, hb⟩
  replace BB := Lib.hid (BB.out.trans (hb.mono BB.out.size))
  have HC := Lib.hid ha
  have LC := Lib.hid la
  clear ha la ka hb
  obtain ⟨x, hx⟩ : ∃ x, x = ival sa.data.toList := ⟨_, rfl⟩
  obtain ⟨y, hy⟩ : ∃ y, y = ival sb.data.toList := ⟨_, rfl⟩
  obtain ⟨z, hzz⟩ : ∃ z, z = ival sc.data.toList := ⟨_, rfl⟩
  have dx : Dg x 60 := by unfold Dg; rw [hx]; exact ival_lt _ HA.out 60 LA.out
  have dy : Dg y 60 := by unfold Dg; rw [hy]; exact ival_lt _ HB.out 60 LB.out
  have dz : Dg z 60 := by unfold Dg; rw [hzz]; exact ival_lt _ HC.out 60 LC.out
  have ia : Is sa x := hx ▸ Is.of sa HA.out
  have ib : Is sb y := hy ▸ Is.of sb HB.out
  have ic : Is sc z := hzz ▸ Is.of sc HC.out
  obtain ⟨sab, iab⟩ := Is.mk (x + y) ((dx.add dy).lim (by decide))
  obtain ⟨sbc, ibc⟩ := Is.mk (y + z) ((dy.add dz).lim (by decide))
  obtain ⟨sx, isx⟩ := Is.mk (x + y + z) (((dx.add dy).add (dz.up 61 (by decide))).lim (by decide))
  obtain ⟨sp, ip⟩ := Is.mk (x * y) ((dx.mul dy).lim (by decide))
  obtain ⟨sac, iac⟩ := Is.mk (x * z) ((dx.mul dz).lim (by decide))
  obtain ⟨su, iu⟩ := Is.mk (x * (y + z)) ((dx.mul (dy.add dz)).lim (by decide))
  obtain ⟨sm, im⟩ := Is.mk (x * y * z) (((dx.mul dy).mul dz).lim (by decide))
  obtain ⟨scb, icb⟩ := Is.mk (y * z) ((dy.mul dz).lim (by decide))
  have F1 := Lib.hid (add_v ia ib iab)
  have F2 := Lib.hid (add_v ib ia (by rw [Int.add_comm]; exact iab))
  have F3 := Lib.hid (add_v ib ic ibc)
  have F4 := Lib.hid (add_v iab ic isx)
  have F5 := Lib.hid (add_v ia ibc (by rw [← Int.add_assoc]; exact isx))
  have F6 := Lib.hid (sub_v iab ib (by rw [Int.add_sub_cancel]; exact ia))
  have F7 := Lib.hid (mul_v ia ib ip)
  have F8 := Lib.hid (mul_v ib ia (by rw [Int.mul_comm]; exact ip))
  have F9 := Lib.hid (mul_v ia ic iac)
  have F10 := Lib.hid (mul_v ia ibc iu)
  have F11 := Lib.hid (add_v ip iac (by rw [← Int.mul_add]; exact iu))
  have F12 := Lib.hid (mul_v ip ic im)
  have F13 := Lib.hid (mul_v ib ic icb)
  have F14 := Lib.hid (mul_v ia icb (by rw [← Int.mul_assoc]; exact im))
  have n1 := iab.ne
  have n2 := ip.ne
  clear ia ib ic iab ibc isx ip iac iu im icb dx dy dz hx hy hzz HA HB HC LA LB LC R0 R1 R2
  go_wp2_with ((first | (go_at_call 18; first | (with_reducible refine (F1.out _).mono ?_) | (with_reducible refine (F2.out _).mono ?_) | (with_reducible refine (F3.out _).mono ?_) | (with_reducible refine (F4.out _).mono ?_) | (with_reducible refine (F5.out _).mono ?_) | (with_reducible refine (F11.out _).mono ?_)) | (go_at_call 20; with_reducible refine (F6.out _).mono ?_) | (go_at_call 22; first | (with_reducible refine (F7.out _).mono ?_) | (with_reducible refine (F8.out _).mono ?_) | (with_reducible refine (F9.out _).mono ?_) | (with_reducible refine (F10.out _).mono ?_) | (with_reducible refine (F12.out _).mono ?_) | (with_reducible refine (F13.out _).mono ?_) | (with_reducible refine (F14.out _).mono ?_))); rintro e w2 ⟨rfl, hb⟩; replace BB := Lib.hid (BB.out.trans (hb.mono BB.out.size)); clear hb)
  go_ret
  exact ⟨rfl, BB.out⟩
end Go.Proofs.YthieggabkaolmaaDoor
