/- The walk of BigOrder: whatever the numbers, true. -/
import Derived.Test.YthieggabkaolmaaDoorO1
namespace Go.Proofs.YthieggabkaolmaaDoor
open Go.RowKit Go.BigM
set_option linter.unusedVariables false

set_option maxHeartbeats 4000000 in
set_option maxRecDepth 100000 in
theorem order_walk (a0 : Option Addr) (len0 cap0 : Nat) (z0 : List Int) (a1 : Option Addr) (len1 cap1 : Nat) (z1 : List Int) (a2 : Option Addr) (len2 cap2 : Nat) (z2 : List Int) (a3 : Bool) (a4 : Bool) (w : World) (w0 : IsRow .i64 w a0 len0 cap0 z0) (w1 : IsRow .i64 w a1 len1 cap1 z1) (w2 : IsRow .i64 w a2 len2 cap2 z2) :
    Calls Tryd.prog 9 #[.slice a0 len0 cap0, .slice a1 len1 cap1, .slice a2 len2 cap2, .bool a3, .bool a4] w fun e w' => e = .returned (.bool true) ∧ Below w.heap.size w w' := by
  have R0 := Lib.hid w0
  have R1 := Lib.hid w1
  have R2 := Lib.hid w2
  have BB := Lib.hid (Below.refl w.heap.size w)
  clear w0 w1 w2
  go_enter Tryd.func9, Tryd.ntmps9
  go_wp2_with (go_at_call 13; refine (known_any _).mono ?_; rintro e w1 ⟨rfl, hb⟩; replace BB := Lib.hid (BB.out.trans (hb.mono BB.out.size)); clear hb)
  refine (num_any a0 len0 cap0 90 z0 a3 _ (R0.out.below BB.out) (by decide) (by decide)).mono ?_
  rintro e wa ⟨sa, rfl, ha, la, ka, hb⟩
  replace BB := Lib.hid (BB.out.trans (hb.mono BB.out.size))
  have HA := Lib.hid ha
  have LA := Lib.hid la
  clear ha la ka hb
  go_wp2_with fail
  refine (num_any a1 len1 cap1 90 z1 a4 _ (R1.out.below BB.out) (by decide) (by decide)).mono ?_
  rintro e wb ⟨sb, rfl, ha, la, ka, hb⟩
  replace BB := Lib.hid (BB.out.trans (hb.mono BB.out.size))
  have HB := Lib.hid ha
  have LB := Lib.hid la
  clear ha la ka hb
  go_wp2_with fail
  refine (num_any a2 len2 cap2 90 z2 a3 _ (R2.out.below BB.out) (by decide) (by decide)).mono ?_
  rintro e wc ⟨sc, rfl, ha, la, ka, hb⟩
  replace BB := Lib.hid (BB.out.trans (hb.mono BB.out.size))
  have HC := Lib.hid ha
  clear ha la ka hb
  obtain ⟨x, hx⟩ : ∃ x, x = ival sa.data.toList := ⟨_, rfl⟩
  obtain ⟨y, hy⟩ : ∃ y, y = ival sb.data.toList := ⟨_, rfl⟩
  obtain ⟨z, hzz⟩ : ∃ z, z = ival sc.data.toList := ⟨_, rfl⟩
  have hxl := ival_lt _ HA.out 90 LA.out
  have hyl := ival_lt _ HB.out 90 LB.out
  have hlim : (x - y).natAbs < Lim := by
    rw [← hx] at hxl
    rw [← hy] at hyl
    have h1 : 10 ^ 91 ≤ Lim := pow_Lim 91 (by decide)
    have h2 : (10 : Nat) ^ 91 = 10 ^ 90 * 10 := Nat.pow_succ _ _
    omega
  obtain ⟨D, hD⟩ : ∃ D : ByteArray, D.data.toList = txtI (x - y) := ⟨⟨(txtI (x - y)).toArray⟩, rfl⟩
  have HSUB := Lib.hid (sub_r sa sb D HA.out HB.out (by rw [← hx, ← hy]; exact hD) (by rw [← hx, ← hy]; exact hlim))
  have HAB := Lib.hid (cmp_r sa sb HA.out HB.out _ rfl)
  have HBA := Lib.hid (cmp_r sb sa HB.out HA.out _ rfl)
  have HBC := Lib.hid (cmp_r sb sc HB.out HC.out _ rfl)
  have HAC := Lib.hid (cmp_r sa sc HA.out HC.out _ rfl)
  rw [← hx, ← hy] at HAB HBA
  rw [← hy, ← hzz] at HBC
  rw [← hx, ← hzz] at HAC
  have HXY : Hid (x = y → sa = sb) := fun e => eq_of_ival sa sb HA.out HB.out (by rw [← hx, ← hy]; exact e)
  have HNE : Hid (x ≠ y → (sa.toList == sb.toList) = false) := fun e => by
    rw [beq_eq_false_iff_ne]; intro e2; apply e
    rw [hx, hy, ← Lib.toList_data, ← Lib.toList_data, e2]
  have HLIM := Lib.hid hlim
  have HD := Lib.hid hD
  clear hx hy hzz hxl hyl hlim hD HA HB HC LA LB
  have c1 : ∀ u v : Int, u < v → cmpI u v = -1 := fun u v h => by unfold cmpI; rw [if_pos h]
  have c2 : ∀ u v : Int, u = v → cmpI u v = 0 := fun u v h => by unfold cmpI; rw [if_neg (by omega), if_pos h]
  have c3 : ∀ u v : Int, v < u → cmpI u v = 1 := fun u v h => by unfold cmpI; rw [if_neg (by omega), if_neg (by omega)]
  have C1 := Lib.hid c1
  have C2 := Lib.hid c2
  have C3 := Lib.hid c3
  clear c1 c2 c3
  rcases Int.lt_trichotomy x y with hxy | hxy | hxy
  · obtain ⟨f1, f2, f3, f4⟩ := neg_facts (x - y) (by omega) HLIM.out D HD.out
    have f5 : ((D[0].toNat : Int) == 45) = true := by rw [beq_iff_eq]; omega
    have f6 := HNE.out (by omega)
    rw [C1.out _ _ hxy] at HAB
    rw [C3.out _ _ hxy] at HBA
    rcases Int.lt_trichotomy y z with hyz | hyz | hyz
    · rw [C1.out _ _ hyz] at HBC
      rw [C1.out _ _ (by omega)] at HAC
      clear hyz C1 C2 C3 HNE HXY HLIM HD hxy f4
      go_wp2_with (first | (go_at_call 20; refine (HSUB.out _).mono ?_; rintro e w2 ⟨rfl, hb⟩; replace BB := Lib.hid (BB.out.trans (hb.mono BB.out.size)); clear hb) | (go_at_call 26; (first | (with_reducible refine (HAB.out _).mono ?_) | (with_reducible refine (HBA.out _).mono ?_) | (with_reducible refine (HBC.out _).mono ?_) | (with_reducible refine (HAC.out _).mono ?_)); rintro e w2 ⟨rfl, hb⟩; replace BB := Lib.hid (BB.out.trans (hb.mono BB.out.size)); clear hb))
      go_ret
      exact ⟨rfl, BB.out⟩
    · rw [C2.out _ _ hyz] at HBC
      rw [C1.out _ _ (by omega)] at HAC
      clear hyz C1 C2 C3 HNE HXY HLIM HD hxy f4
      go_wp2_with (first | (go_at_call 20; refine (HSUB.out _).mono ?_; rintro e w2 ⟨rfl, hb⟩; replace BB := Lib.hid (BB.out.trans (hb.mono BB.out.size)); clear hb) | (go_at_call 26; (first | (with_reducible refine (HAB.out _).mono ?_) | (with_reducible refine (HBA.out _).mono ?_) | (with_reducible refine (HBC.out _).mono ?_) | (with_reducible refine (HAC.out _).mono ?_)); rintro e w2 ⟨rfl, hb⟩; replace BB := Lib.hid (BB.out.trans (hb.mono BB.out.size)); clear hb))
      go_ret
      exact ⟨rfl, BB.out⟩
    · rw [C3.out _ _ hyz] at HBC
      clear hyz C1 C2 C3 HNE HXY HLIM HD hxy f4
      go_wp2_with (first | (go_at_call 20; refine (HSUB.out _).mono ?_; rintro e w2 ⟨rfl, hb⟩; replace BB := Lib.hid (BB.out.trans (hb.mono BB.out.size)); clear hb) | (go_at_call 26; (first | (with_reducible refine (HAB.out _).mono ?_) | (with_reducible refine (HBA.out _).mono ?_) | (with_reducible refine (HBC.out _).mono ?_) | (with_reducible refine (HAC.out _).mono ?_)); rintro e w2 ⟨rfl, hb⟩; replace BB := Lib.hid (BB.out.trans (hb.mono BB.out.size)); clear hb))
      go_ret
      exact ⟨rfl, BB.out⟩
  · obtain rfl := HXY.out hxy
    subst hxy
    have f0 : D = ⟨#[48]⟩ := by
      have := HD.out
      rw [Int.sub_self] at this
      rw [← Lib.mk_data D, this]; rfl
    subst f0
    rw [C2.out _ _ rfl] at HAB HBA
    rcases Int.lt_trichotomy x z with hyz | hyz | hyz
    · rw [C1.out _ _ hyz] at HBC HAC
      clear hyz C1 C2 C3 HNE HXY HLIM HD
      go_wp2_with (first | (go_at_call 20; refine (HSUB.out _).mono ?_; rintro e w2 ⟨rfl, hb⟩; replace BB := Lib.hid (BB.out.trans (hb.mono BB.out.size)); clear hb) | (go_at_call 26; (first | (with_reducible refine (HAB.out _).mono ?_) | (with_reducible refine (HBA.out _).mono ?_) | (with_reducible refine (HBC.out _).mono ?_) | (with_reducible refine (HAC.out _).mono ?_)); rintro e w2 ⟨rfl, hb⟩; replace BB := Lib.hid (BB.out.trans (hb.mono BB.out.size)); clear hb))
      go_ret
      exact ⟨rfl, BB.out⟩
    · rw [C2.out _ _ hyz] at HBC HAC
      clear hyz C1 C2 C3 HNE HXY HLIM HD
      go_wp2_with (first | (go_at_call 20; refine (HSUB.out _).mono ?_; rintro e w2 ⟨rfl, hb⟩; replace BB := Lib.hid (BB.out.trans (hb.mono BB.out.size)); clear hb) | (go_at_call 26; (first | (with_reducible refine (HAB.out _).mono ?_) | (with_reducible refine (HBA.out _).mono ?_) | (with_reducible refine (HBC.out _).mono ?_) | (with_reducible refine (HAC.out _).mono ?_)); rintro e w2 ⟨rfl, hb⟩; replace BB := Lib.hid (BB.out.trans (hb.mono BB.out.size)); clear hb))
      go_ret
      exact ⟨rfl, BB.out⟩
    · rw [C3.out _ _ hyz] at HBC HAC
      clear hyz C1 C2 C3 HNE HXY HLIM HD
      go_wp2_with (first | (go_at_call 20; refine (HSUB.out _).mono ?_; rintro e w2 ⟨rfl, hb⟩; replace BB := Lib.hid (BB.out.trans (hb.mono BB.out.size)); clear hb) | (go_at_call 26; (first | (with_reducible refine (HAB.out _).mono ?_) | (with_reducible refine (HBA.out _).mono ?_) | (with_reducible refine (HBC.out _).mono ?_) | (with_reducible refine (HAC.out _).mono ?_)); rintro e w2 ⟨rfl, hb⟩; replace BB := Lib.hid (BB.out.trans (hb.mono BB.out.size)); clear hb))
      go_ret
      exact ⟨rfl, BB.out⟩
  · obtain ⟨f1, f2, f3, f4⟩ := pos_facts (x - y) (by omega) HLIM.out D HD.out
    have f5 : ((D[0].toNat : Int) == 45) = false := by rw [beq_eq_false_iff_ne]; omega
    have f6 := HNE.out (by omega)
    rw [C3.out _ _ hxy] at HAB
    rw [C1.out _ _ hxy] at HBA
    clear hxy f4 C1 C2 C3 HNE HXY HLIM HD
    go_wp2_with (first | (go_at_call 20; refine (HSUB.out _).mono ?_; rintro e w2 ⟨rfl, hb⟩; replace BB := Lib.hid (BB.out.trans (hb.mono BB.out.size)); clear hb) | (go_at_call 26; (first | (with_reducible refine (HAB.out _).mono ?_) | (with_reducible refine (HBA.out _).mono ?_) | (with_reducible refine (HBC.out _).mono ?_) | (with_reducible refine (HAC.out _).mono ?_)); rintro e w2 ⟨rfl, hb⟩; replace BB := Lib.hid (BB.out.trans (hb.mono BB.out.size)); clear hb))
    go_ret
    exact ⟨rfl, BB.out⟩
end Go.Proofs.YthieggabkaolmaaDoor
